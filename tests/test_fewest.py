"""The fewest lines [9] and [51] to [53]."""

import random
import time

from nevercrossed.cells import border
from nevercrossed.errors import InvalidWalk, InvalidWalks
from nevercrossed.fewest import best_plan, division_fault, fewest, pieces
from nevercrossed.figures import Figure
from nevercrossed.plans import Plan
from nevercrossed.texts import read_picture
from tests.helper import Case, any_values
from tests.samples import (
    BOTH, RING, SQUARE, all_plans, any_figures, even_figures, large_figures, random_plan, some_figure,
)

HOUSE = read_picture("+-+\n| |\n+-+\n| |\n+ +")
STAR = read_picture("  +\n  |\n+-+-+\n  |\n  +")


def pieces_by_hand(figure):
    """Return the pieces as lists of edges: each edge joins all those that it touches."""
    found = []
    for edge in figure.edges:
        touched = [piece for piece in found if any(set(edge) & set(other) for other in piece)]
        found = [piece for piece in found if piece not in touched] + [sum(touched, [edge])]
    return sorted(sorted(piece) for piece in found)


class TestPieces(Case):
    def test_none_and_one(self):
        self.assertEqual(pieces(Figure()), ())
        for figure in (SQUARE, BOTH, RING, HOUSE, STAR, Figure([((4, 4), (5, 4))])):
            self.assertEqual(pieces(figure), (figure,))
            self.assertEqual(pieces(figure=figure), (figure,))

    def test_several(self):
        figure = read_picture("+-+ +\n| | |\n+-+ +\n\n+-+-+")
        low, middle, right = Figure([((0, 0), (1, 0)), ((1, 0), (2, 0))]), SQUARE.shifted(0, 1), [((2, 1), (2, 2))]
        self.assertEqual(pieces(figure), (low, middle, Figure(right)))

    def test_the_least_edge_counts(self):
        inner = border([(2, 2)])
        outer = border([(x, y) for x in range(5) for y in range(5)])
        self.assertEqual(pieces(inner | outer), (outer, inner))
        self.assertEqual(pieces(inner.shifted(4, 0) | inner.shifted(4, 5)), (inner.shifted(4, 0), inner.shifted(4, 5)))

    def test_as_the_document_defines_them(self):
        for figure in any_figures() + even_figures() + large_figures()[:1]:
            found = pieces(figure)
            self.assertIs(type(found), tuple)
            self.assertEqual([type(piece) for piece in found], [Figure] * len(found))
            self.assertEqual([list(piece.edges) for piece in found], pieces_by_hand(figure))
            for piece in found:
                self.assertEqual(piece.points(), Figure(piece.edges).points())
                self.assertEqual(piece, Figure(piece.edges))

    def test_large_figures(self):
        self.assertEqual([len(pieces(figure)) for figure in large_figures()[-4:]], [1, 1, 390, 100])


class TestFewest(Case):
    def test_small(self):
        for figure, many in (
            (Figure(), 0), (SQUARE, 1), (BOTH, 1), (RING, 1), (Figure([((0, 0), (1, 0))]), 1), (HOUSE, 2), (STAR, 2),
            (SQUARE | SQUARE.shifted(3, 0), 2), (HOUSE | SQUARE.shifted(0, 4), 3), (STAR | HOUSE.shifted(5, 0), 4),
        ):
            self.assertEqual([fewest(figure), fewest(figure=figure), len(best_plan(figure).lines())], [many] * 3)

    def test_no_plan_has_fewer_lines(self):
        for seed in range(60):
            figure = some_figure(3, 4 + seed % 9, seed)
            many = [len(plan.lines()) for plan in all_plans(figure)]
            self.assertEqual(min(many), fewest(figure))

    def test_odd_points_and_pieces(self):
        for figure in any_figures() + even_figures() + large_figures():
            odd = [len(piece.odd_points()) for piece in pieces(figure)]
            self.assertEqual(fewest(figure), sum(max(1, many // 2) for many in odd))

    def test_best_plan(self):
        kinds = set()
        for figure in any_figures(200) + even_figures(100):
            plan = best_plan(figure)
            self.assertIs(type(plan), Plan)
            self.assertEqual(plan.figure, figure)
            self.assertEqual(len(plan.lines()), fewest(figure))
            self.assertEqual(plan, Plan(figure, plan.turns()))
            kinds.update(len(piece.odd_points()) for piece in pieces(figure))
        self.assertTrue(kinds >= {0, 2, 4, 6, 8, 10}, kinds)

    def test_large_figures_in_no_time(self):
        started = time.process_time()
        for figure in large_figures():
            self.assertEqual(len(best_plan(figure).lines()), fewest(figure))
            self.assertEqual(len(best_plan(figure.turned()).lines()), fewest(figure))
        # Some 20 figures; each takes about a thousandth of a second.
        self.assertLess(time.process_time() - started, 4)

    def test_moved_figures_have_as_few(self):
        for figure in any_figures(30):
            self.assertEqual(fewest(figure), fewest(figure.turned()))
            self.assertEqual(fewest(figure), fewest(figure.mirrored().shifted(-20, 3)))


class TestDivisionFault(Case):
    def test_small(self):
        walks = [((0, 0), (0, 1), (0, 2)), ((0, 2), (1, 2), (1, 1), (0, 1)), ((1, 0), (1, 1))]
        self.assertIsNone(division_fault(HOUSE, walks))
        self.assertIsNone(division_fault(HOUSE, tuple(walks)))
        self.assertIsNone(division_fault(walks=walks[::-1], figure=HOUSE))
        self.assertIsNone(division_fault(HOUSE, [walk[::-1] for walk in walks]))
        self.assertIsNone(division_fault(Figure(), []))
        self.assertIsNone(division_fault(SQUARE, [((0, 0), (0, 1), (1, 1), (1, 0), (0, 0))]))

    def test_crossing_lines_divide_too(self):
        self.assertIsNone(division_fault(STAR, [((0, 1), (1, 1), (2, 1)), ((1, 0), (1, 1), (1, 2))]))

    def test_lines_of_plans(self):
        for seed, figure in enumerate(any_figures() + even_figures()):
            lines = random_plan(figure, seed).lines()
            self.assertIsNone(division_fault(figure, lines))
            self.assertIsNone(division_fault(figure, list(lines)[::-1]))
            self.assertGreaterEqual(len(lines), fewest(figure))

    def test_edges_left_over(self):
        for figure in (HOUSE, BOTH, STAR):
            lines = list(best_plan(figure).lines())
            for at in range(len(lines)):
                self.assertEqual(division_fault(figure, lines[:at] + lines[at + 1:]), len(lines) - 1)
        self.assertEqual(division_fault(HOUSE, []), 0)
        self.assertEqual(division_fault(SQUARE, [((0, 0), (0, 1), (1, 1), (1, 0))]), 1)

    def test_an_edge_that_is_not_in_the_figure(self):
        walk, far = ((0, 0), (0, 1), (1, 1), (1, 0), (0, 0)), ((5, 5), (6, 5))
        self.assertEqual(division_fault(SQUARE, [walk, far]), 1)
        self.assertEqual(division_fault(SQUARE, [far, walk]), 0)
        self.assertEqual(division_fault(SQUARE, [((0, 0), (0, 1), (0, 2))]), 0)
        self.assertEqual(division_fault(Figure(), [far]), 0)

    def test_an_edge_that_occurred_before(self):
        walk, side = ((0, 0), (0, 1), (1, 1), (1, 0), (0, 0)), ((0, 1), (0, 0))
        self.assertEqual(division_fault(SQUARE, [walk, side]), 1)
        self.assertEqual(division_fault(SQUARE, [side, walk]), 1)
        self.assertEqual(division_fault(SQUARE, [side, side]), 1)
        self.assertEqual(division_fault(SQUARE, [((0, 0), (0, 1), (0, 0))]), 0)
        self.assertEqual(division_fault(SQUARE, [walk + ((0, 1),)]), 0)

    def test_the_first_faulty_walk(self):
        chance = random.Random(53)
        for seed, figure in enumerate(any_figures(40)[1:]):
            lines = list(random_plan(figure, seed).lines())
            at = chance.randrange(len(lines))
            late = chance.randrange(at, len(lines))
            walks = lines[:late + 1] + [lines[at]] + lines[late + 1:] + [lines[at]]
            self.assertEqual(division_fault(figure, walks), late + 1)
            walks = lines[:late] + [((30, 20), (30, 21))] + lines[late:] + [lines[at]]
            self.assertEqual(division_fault(figure, walks), late)

    def test_not_a_list(self):
        for value in any_values():
            if not isinstance(value, (list, tuple)):
                self.raises_it(InvalidWalks, value, division_fault, HOUSE, value)
        self.raises_it(InvalidWalks, value := {0: ((0, 0), (0, 1))}, division_fault, HOUSE, value)

    def test_not_a_walk(self):
        walk, far = ((0, 0), (0, 1), (0, 2)), ((5, 5), (6, 5))
        wrong = [[(0, 0), (0, 1)], ((0, 0),), (), [], ((0, 0), (1, 1)), ((0, 0), (0, 0)), ((0, 0), (True, 0)), "0,0 r"]
        wrong += [value for value in any_values(others=False)] + [((30, 30), (31, 30)), ([0, 0], [0, 1])]
        for item in wrong:
            for walks in ([item], [walk, item], [far, item], [walk, walk, item, None], (item,), (walk, item, 7, [])):
                self.raises_it(InvalidWalk, item, division_fault, HOUSE, walks)
        # A walk is no list of walks: its first item is a point.
        self.raises_it(InvalidWalk, walk[0], division_fault, HOUSE, walk)

    def test_walks_of_any_number_of_points(self):
        long = ((0, 0), (0, 1)) * 300
        self.assertEqual(division_fault(SQUARE, [long]), 0)
        snake = large_figures()[6]
        line = best_plan(snake).lines()
        self.assertIsNone(division_fault(snake, line))

    def test_nothing_is_changed(self):
        walks = [((0, 0), (0, 1), (0, 2)), ((0, 0), (0, 1))]
        division_fault(HOUSE, walks)
        self.assertEqual(walks, [((0, 0), (0, 1), (0, 2)), ((0, 0), (0, 1))])
