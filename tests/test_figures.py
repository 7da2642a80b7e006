"""The figures [21] to [24]."""

import collections.abc
import copy
import random

from nevercrossed.errors import (
    BeyondPaper, InvalidEdges, InvalidFigure, InvalidNumber, InvalidPoint, NevercrossedError, TooLarge,
)
from nevercrossed.figures import Figure
from tests.helper import Case, any_values

ALL_EDGES = sorted(
    [((x, y), (x + 1, y)) for x in range(30) for y in range(31)]
    + [((x, y), (x, y + 1)) for x in range(31) for y in range(30)]
)
RIGHT = ((0, 0), (1, 0))
UP = ((0, 0), (0, 1))
TOP = ((0, 1), (1, 1))
FAR = ((1, 0), (1, 1))
SQUARE = [RIGHT, UP, TOP, FAR]
CROSS = [((4, 5), (5, 5)), ((5, 4), (5, 5)), ((5, 5), (5, 6)), ((5, 5), (6, 5))]
NOT_AN_EDGE = [
    ((1, 0), (0, 0)), ((0, 0), (2, 0)), ((0, 0), (1, 1)), ((0, 0), (0, 0)), ((30, 0), (31, 0)), ((-1, 0), (0, 0)),
    ((0, 0), (True, 0)), ((0, False), (0, 1)), [(0, 0), (1, 0)], ([0, 0], (1, 0)), ((0, 0), [1, 0]), ((0, 0),),
    ((0, 0), (1, 0), (2, 0)), (0, 0), None, True, 0, "", "r", "0,0 r", [], (), {}, {RIGHT: True}, Figure(),
    Figure([RIGHT]), InvalidPoint((0, 0)),
]


def some_edges(count, seed):
    """Return different edges in no order, the same ones for the same seed."""
    return random.Random(seed).sample(ALL_EDGES, count)


def near_edges(count, seed):
    """Return edges of a small corner of the paper, so that several of them meet at a point."""
    near = [edge for edge in ALL_EDGES if edge[1][0] <= 4 and edge[1][1] <= 4]
    return random.Random(seed).sample(near, count)


def sample_figures():
    """Return figures with none, one and many edges."""
    figures = [Figure(), Figure([RIGHT]), Figure([UP]), Figure(SQUARE), Figure(CROSS)]
    figures += [Figure(near_edges(count, count)) for count in (5, 12, 20, 30, 40)]
    return figures + [Figure(some_edges(count, count)) for count in (3, 60, 150, 190)]


class TestMaking(Case):
    def test_none_one_and_many(self):
        self.assertEqual(Figure().edges, ())
        self.assertEqual(Figure([]).edges, ())
        self.assertEqual(Figure(()).edges, ())
        self.assertEqual(Figure([RIGHT]).edges, (RIGHT,))
        self.assertEqual(Figure(SQUARE).edges, (UP, RIGHT, TOP, FAR))

    def test_list_or_tuple(self):
        for edges in ([], [RIGHT], SQUARE, CROSS, some_edges(100, 1)):
            self.assertEqual(Figure(edges).edges, tuple(sorted(edges)))
            self.assertEqual(Figure(tuple(edges)).edges, tuple(sorted(edges)))
            self.assertEqual(Figure(edges=edges).edges, tuple(sorted(edges)))

    def test_edges_is_a_tuple_of_tuples(self):
        self.assertIs(type(Figure(SQUARE).edges), tuple)
        self.assertIs(type(Figure().edges), tuple)
        for edge in Figure(SQUARE).edges:
            self.assertIs(type(edge), tuple)
            self.assertEqual([type(point) for point in edge], [tuple, tuple])

    def test_any_order_some_several_times(self):
        for seed in range(20):
            edges = some_edges(30, seed)
            several = edges + edges[:10] + edges[5:8]
            random.Random(seed).shuffle(several)
            self.assertEqual(Figure(several).edges, tuple(sorted(edges)))
            self.assertEqual(len(Figure(several)), 30)

    def test_all_edges_of_the_paper_are_accepted(self):
        for start in range(0, len(ALL_EDGES), 400):
            part = ALL_EDGES[start:start + 400]
            self.assertEqual(Figure(part).edges, tuple(part))

    def test_the_list_is_changed_later(self):
        edges = list(SQUARE)
        figure = Figure(edges)
        edges.append(((5, 5), (6, 5)))
        edges[0] = None
        self.assertEqual(figure.edges, (UP, RIGHT, TOP, FAR))
        self.assertEqual(len(figure), 4)
        self.assertEqual(figure, Figure(SQUARE))
        self.assertNotIn(((5, 5), (6, 5)), figure)

    def test_the_list_stays_as_it_was(self):
        edges = [FAR, RIGHT, UP, RIGHT]
        Figure(edges)
        self.assertEqual(edges, [FAR, RIGHT, UP, RIGHT])

    def test_figures_keep_apart(self):
        one, two = Figure([RIGHT]), Figure([UP])
        self.assertEqual([one.edges, two.edges, Figure().edges], [(RIGHT,), (UP,), ()])

    def test_not_a_list_of_edges(self):
        for value in any_values():
            self.raises_it(InvalidEdges, value, Figure, value)

    def test_a_wrong_item_at_any_place(self):
        for item in NOT_AN_EDGE:
            for edges in ([item], [item, RIGHT], [RIGHT, item], [RIGHT, item, UP], (item,), (RIGHT, UP, item)):
                self.raises_it(InvalidEdges, edges, Figure, edges)

    def test_other_things_with_edges_are_no_lists(self):
        for value in ({RIGHT: True}, RIGHT, Figure(SQUARE), "ruld"):
            self.raises_it(InvalidEdges, value, Figure, value)
        value = {}
        self.raises_it(InvalidEdges, value, Figure, value)
        self.raises_it(InvalidEdges, value, Figure, edges=value)

    def test_the_wrong_list_is_changed_later(self):
        edges = [RIGHT, None]
        found = self.caught(InvalidEdges, Figure, edges)
        edges.append(UP)
        self.assertIs(found.value, edges)

    def test_at_most_400(self):
        self.assertEqual(len(Figure(ALL_EDGES[:399])), 399)
        self.assertEqual(len(Figure(ALL_EDGES[:400])), 400)
        self.raises_like(TooLarge, 401, Figure, ALL_EDGES[:401])
        self.raises_like(TooLarge, 401, Figure, tuple(ALL_EDGES[:401]))
        self.raises_like(TooLarge, 1860, Figure, ALL_EDGES)

    def test_only_different_edges_count(self):
        self.assertEqual(len(Figure(ALL_EDGES[:400] * 3)), 400)
        self.raises_like(TooLarge, 401, Figure, ALL_EDGES[:401] + ALL_EDGES[:300])

    def test_wrong_items_come_before_too_many(self):
        edges = ALL_EDGES[:401] + [None]
        self.raises_it(InvalidEdges, edges, Figure, edges)
        edges = [((1, 0), (0, 0))] + ALL_EDGES
        self.raises_it(InvalidEdges, edges, Figure, edges)


class TestAsking(Case):
    def test_points(self):
        self.assertEqual(Figure().points(), ())
        self.assertEqual(Figure([RIGHT]).points(), ((0, 0), (1, 0)))
        self.assertEqual(Figure(SQUARE).points(), ((0, 0), (0, 1), (1, 0), (1, 1)))
        self.assertEqual(Figure(CROSS).points(), ((4, 5), (5, 4), (5, 5), (5, 6), (6, 5)))
        for figure in sample_figures():
            expected = tuple(sorted({point for edge in figure.edges for point in edge}))
            self.assertIs(type(figure.points()), tuple)
            self.assertEqual(figure.points(), expected)

    def test_odd_points(self):
        self.assertEqual(Figure().odd_points(), ())
        self.assertEqual(Figure([RIGHT]).odd_points(), ((0, 0), (1, 0)))
        self.assertEqual(Figure([UP, RIGHT]).odd_points(), ((0, 1), (1, 0)))
        self.assertEqual(Figure(SQUARE).odd_points(), ())
        self.assertEqual(Figure(CROSS).odd_points(), ((4, 5), (5, 4), (5, 6), (6, 5)))
        self.assertEqual(Figure(CROSS[:3]).odd_points(), ((4, 5), (5, 4), (5, 5), (5, 6)))
        for figure in sample_figures():
            ends = [point for edge in figure.edges for point in edge]
            expected = tuple(sorted({point for point in ends if ends.count(point) in (1, 3)}))
            self.assertIs(type(figure.odd_points()), tuple)
            self.assertEqual(figure.odd_points(), expected)

    def test_directions_of_each_degree(self):
        cross = {"l": CROSS[0], "d": CROSS[1], "u": CROSS[2], "r": CROSS[3]}
        for number in range(16):
            letters = "".join(way for place, way in enumerate("ruld") if number >> place & 1)
            figure = Figure([cross[way] for way in letters])
            self.assertEqual(figure.directions((5, 5)), letters)
            for way, point in (("l", (6, 5)), ("d", (5, 6)), ("r", (4, 5)), ("u", (5, 4))):
                opposite = {"r": "l", "l": "r", "u": "d", "d": "u"}[way]
                self.assertEqual(figure.directions(point), way if opposite in letters else "")

    def test_directions_at_every_point(self):
        steps = (("r", 1, 0), ("u", 0, 1), ("l", -1, 0), ("d", 0, -1))
        for figure in sample_figures():
            for x in range(31):
                for y in range(31):
                    expected = "".join(
                        way for way, dx, dy in steps
                        if tuple(sorted([(x, y), (x + dx, y + dy)])) in figure.edges
                    )
                    self.assertEqual(figure.directions((x, y)), expected)

    def test_directions_at_corners_of_the_paper(self):
        ends = [((0, 0), (1, 0)), ((0, 0), (0, 1)), ((29, 30), (30, 30)), ((30, 29), (30, 30))]
        figure = Figure(ends)
        self.assertEqual(figure.directions((0, 0)), "ru")
        self.assertEqual(figure.directions((30, 30)), "ld")
        self.assertEqual(figure.directions((30, 0)), "")
        self.assertEqual(figure.directions(point=(0, 30)), "")

    def test_directions_of_a_wrong_point(self):
        wrong = [(31, 0), (0, 31), (-1, 0), (0, -1), (True, 0), (0, False), [0, 0], ([0], 0), (0, 0, 0), (0,)]
        for figure in (Figure(), Figure(SQUARE)):
            for value in wrong + any_values():
                self.raises_it(InvalidPoint, value, figure.directions, value)

    def test_len(self):
        for count in (0, 1, 2, 77, 400):
            self.assertEqual(len(Figure(ALL_EDGES[:count])), count)

    def test_in(self):
        for figure in sample_figures():
            for edge in ALL_EDGES:
                self.assertIs(edge in figure, edge in figure.edges)

    def test_other_values_are_not_in(self):
        for figure in (Figure(), Figure([RIGHT]), Figure(SQUARE), Figure(ALL_EDGES[:400])):
            for value in NOT_AN_EDGE:
                self.assertIs(value in figure, False, value)
                self.assertIs(value not in figure, True, value)
            for value in any_values():
                self.assertIs(value in figure, type(value) is tuple and value in figure.edges, value)

    def test_true_and_false_are_not_in(self):
        figure = Figure(SQUARE)
        for value in (((0, 0), (True, 0)), ((False, False), (True, False)), ((0, 0), (0, True)), ((True, 0), (1, 1))):
            self.assertIn(value, figure.edges)
            self.assertIs(value in figure, False)

    def test_equal(self):
        for edges in ([], [RIGHT], SQUARE, CROSS, some_edges(50, 2)):
            self.assertIs(Figure(edges) == Figure(edges[::-1] + edges), True)
            self.assertIs(Figure(edges) != Figure(edges[::-1] + edges), False)

    def test_unequal(self):
        figures = sample_figures()
        for at, figure in enumerate(figures):
            for place, other in enumerate(figures):
                self.assertIs(figure == other, at == place)
                self.assertIs(figure != other, at != place)
        self.assertIs(Figure(SQUARE) == Figure(SQUARE[:3]), False)
        self.assertIs(Figure(SQUARE) == Figure(SQUARE[:3] + [CROSS[0]]), False)

    def test_not_equal_to_other_values(self):
        for figure in (Figure(), Figure([RIGHT]), Figure(SQUARE)):
            others = [value for value in any_values() if not isinstance(value, Figure)]
            for value in others + [figure.edges, list(figure.edges), len(figure), (), [], {}, figure.points()]:
                self.assertIs(figure == value, False)
                self.assertIs(figure != value, True)
                self.assertIs(value == figure, False)
                self.assertIs(value != figure, True)

    def test_iterating(self):
        for figure in (Figure(), Figure([RIGHT]), Figure(SQUARE)):
            self.assertRaises(TypeError, iter, figure)
            self.assertRaises(TypeError, list, figure)
            self.assertRaises(TypeError, tuple, figure)
            self.assertRaises(TypeError, sorted, figure)
            self.assertNotIsInstance(figure, collections.abc.Iterable)
            with self.assertRaises(TypeError):
                for _ in figure:
                    self.fail("a figure was iterated over")

    def test_asking_changes_nothing(self):
        figure = Figure(SQUARE)
        for _ in range(2):
            figure.points()
            figure.odd_points()
            figure.directions((0, 0))
            self.assertNotIn(None, figure)
            self.assertEqual(figure.edges, (UP, RIGHT, TOP, FAR))
            self.assertEqual(figure.points(), ((0, 0), (0, 1), (1, 0), (1, 1)))


class TestPuttingTogether(Case):
    OPERATORS = (
        (lambda one, two: one | two, set.union),
        (lambda one, two: one & two, set.intersection),
        (lambda one, two: one - two, set.difference),
        (lambda one, two: one ^ two, set.symmetric_difference),
    )

    def test_small(self):
        one, two = Figure([RIGHT, UP]), Figure([UP, TOP])
        self.assertEqual((one | two).edges, (UP, RIGHT, TOP))
        self.assertEqual((one & two).edges, (UP,))
        self.assertEqual((one - two).edges, (RIGHT,))
        self.assertEqual((two - one).edges, (TOP,))
        self.assertEqual((one ^ two).edges, (RIGHT, TOP))

    def test_both_orders(self):
        figures = sample_figures()
        for one in figures:
            for two in figures:
                for action, expected in self.OPERATORS:
                    result = action(one, two)
                    self.assertIs(type(result), Figure)
                    self.assertEqual(result.edges, tuple(sorted(expected(set(one.edges), set(two.edges)))))
                    self.assertEqual(result, Figure(result.edges))
                    self.assertEqual(result.points(), Figure(result.edges).points())

    def test_with_itself_and_with_the_empty_figure(self):
        empty = Figure()
        for figure in sample_figures():
            self.assertEqual([figure | figure, figure & figure], [figure, figure])
            self.assertEqual([figure - figure, figure ^ figure], [empty, empty])
            self.assertEqual([figure | empty, empty | figure], [figure, figure])
            self.assertEqual([figure & empty, empty & figure], [empty, empty])
            self.assertEqual([figure - empty, empty - figure], [figure, empty])
            self.assertEqual([figure ^ empty, empty ^ figure], [figure, figure])

    def test_the_figures_stay_as_they_were(self):
        one, two = Figure(near_edges(20, 1)), Figure(near_edges(20, 2))
        kept = copy.deepcopy(one), copy.deepcopy(two)
        for action, _ in self.OPERATORS:
            action(one, two)
            for figure, other in zip((one, two), kept):
                self.assertEqual(figure.edges, other.edges)
                self.assertEqual(figure.points(), other.points())
                self.assertEqual(figure.odd_points(), other.odd_points())
                self.assertEqual(len(figure), 20)

    def test_assigned_to_the_same_name(self):
        figure = kept = Figure(SQUARE)
        figure |= Figure(CROSS)
        self.assertEqual([len(figure), len(kept)], [8, 4])
        figure -= kept
        self.assertEqual([figure, kept], [Figure(CROSS), Figure(SQUARE)])

    def test_with_other_values(self):
        for figure in (Figure(), Figure(SQUARE)):
            others = [value for value in any_values() if not isinstance(value, Figure)]
            for value in others + [[], (), figure.edges, list(figure.edges)]:
                for action, _ in self.OPERATORS:
                    self.raises_it(InvalidFigure, value, action, figure, value)

    def test_at_most_400(self):
        one, two = Figure(ALL_EDGES[:250]), Figure(ALL_EDGES[250:400])
        self.assertEqual(len(one | two), 400)
        self.assertEqual(len(one ^ two), 400)
        more = Figure(ALL_EDGES[250:401])
        for first, second in ((one, more), (more, one)):
            self.raises_like(TooLarge, 401, lambda: first | second)
            self.raises_like(TooLarge, 401, lambda: first ^ second)

    def test_400_with_others(self):
        one, two = Figure(ALL_EDGES[:400]), Figure(ALL_EDGES[200:600])
        self.raises_like(TooLarge, 600, lambda: one | two)
        self.assertEqual((one ^ two).edges, tuple(ALL_EDGES[:200] + ALL_EDGES[400:600]))
        self.assertEqual((one & two).edges, tuple(ALL_EDGES[200:400]))
        self.assertEqual((one - two).edges, tuple(ALL_EDGES[:200]))
        self.assertEqual(one | one, one)
        far = Figure(ALL_EDGES[400:800])
        self.raises_like(TooLarge, 800, lambda: one | far)
        self.raises_like(TooLarge, 800, lambda: one ^ far)

    def test_nothing_is_changed_by_what_is_refused(self):
        one, two = Figure(ALL_EDGES[:400]), Figure(ALL_EDGES[300:500])
        self.assertRaises(TooLarge, lambda: one | two)
        self.assertRaises(InvalidFigure, lambda: one | None)
        self.assertEqual([one.edges, two.edges], [tuple(ALL_EDGES[:400]), tuple(ALL_EDGES[300:500])])


class TestMoving(Case):
    def test_shifted(self):
        self.assertEqual(Figure([RIGHT]).shifted(2, 3).edges, (((2, 3), (3, 3)),))
        self.assertEqual(Figure([RIGHT]).shifted(dy=3, dx=2).edges, (((2, 3), (3, 3)),))
        self.assertEqual(Figure(CROSS).shifted(-4, 1).edges, Figure([
            ((0, 6), (1, 6)), ((1, 5), (1, 6)), ((1, 6), (1, 7)), ((1, 6), (2, 6)),
        ]).edges)

    def test_shifted_by_nothing_and_back(self):
        for figure in sample_figures():
            self.assertEqual(figure.shifted(0, 0), figure)
        for dx in range(-4, 25):
            for dy in range(-4, 25):
                self.assertEqual(Figure(CROSS).shifted(dx, dy).shifted(-dx, -dy), Figure(CROSS))

    def test_up_to_each_rim_and_one_beyond(self):
        # The cross takes the points from 4 to 6 both ways.
        figure = Figure(CROSS)
        for dx, dy in ((-4, 0), (24, 0), (0, -4), (0, 24), (-4, -4), (24, 24), (-4, 24), (24, -4)):
            moved = figure.shifted(dx, dy)
            self.assertEqual(moved.directions((5 + dx, 5 + dy)), "ruld")
            self.assertEqual(len(moved), 4)
        for dx, dy in ((-5, 0), (25, 0), (0, -5), (0, 25), (-5, -4), (24, 25), (30, 30), (-30, -30), (-30, 30)):
            self.raises_it(BeyondPaper, figure, figure.shifted, dx, dy)

    def test_one_edge_over_the_whole_paper(self):
        self.assertEqual(Figure([RIGHT]).shifted(29, 30).edges, (((29, 30), (30, 30)),))
        self.assertEqual(Figure([((29, 30), (30, 30))]).shifted(-29, -30), Figure([RIGHT]))
        self.assertEqual(Figure([UP]).shifted(30, 29).edges, (((30, 29), (30, 30)),))
        for figure, dx, dy in (
            (Figure([RIGHT]), 30, 0), (Figure([UP]), 0, 30), (Figure([RIGHT]), -1, 0), (Figure([RIGHT]), 0, -1),
        ):
            self.raises_it(BeyondPaper, figure, figure.shifted, dx, dy)

    def test_a_single_point_beyond(self):
        figure = Figure([RIGHT, ((15, 15), (16, 15))])
        self.raises_it(BeyondPaper, figure, figure.shifted, -1, 0)
        self.raises_it(BeyondPaper, figure, figure.shifted, 15, 0)
        self.assertEqual(len(figure.shifted(14, 15)), 2)

    def test_the_empty_figure_fits_everywhere(self):
        for dx in (-30, 0, 30):
            for dy in (-30, 0, 30):
                self.assertEqual(Figure().shifted(dx, dy), Figure())

    def test_wrong_numbers(self):
        wrong = [31, -31, 10 ** 30 - 1, True, False, None, "1", "", [1], (1,), {}, Figure(), Figure([RIGHT])]
        wrong += [value for value in any_values() if type(value) is not int]
        for figure in (Figure(), Figure(SQUARE)):
            for value in wrong:
                self.raises_it(InvalidNumber, value, figure.shifted, value, 0)
                self.raises_it(InvalidNumber, value, figure.shifted, 0, value)
                self.raises_it(InvalidNumber, value, figure.shifted, value, None)
                self.raises_it(InvalidNumber, value, figure.shifted, value, 31)

    def test_wrong_numbers_come_before_the_paper(self):
        figure = Figure(SQUARE)
        self.raises_like(InvalidNumber, 31, figure.shifted, -1, 31)
        self.raises_like(InvalidNumber, -31, figure.shifted, -31, -1)
        self.raises_it(BeyondPaper, figure, figure.shifted, -30, 30)

    def test_turned(self):
        self.assertEqual(Figure().turned(), Figure())
        self.assertEqual(Figure([RIGHT]).turned().edges, (((30, 0), (30, 1)),))
        self.assertEqual(Figure([UP]).turned().edges, (((29, 0), (30, 0)),))
        self.assertEqual(Figure([((2, 7), (3, 7))]).turned().edges, (((23, 2), (23, 3)),))
        self.assertEqual(Figure([((15, 15), (15, 16))]).turned().edges, (((14, 15), (15, 15)),))

    def test_mirrored(self):
        self.assertEqual(Figure().mirrored(), Figure())
        self.assertEqual(Figure([RIGHT]).mirrored().edges, (((29, 0), (30, 0)),))
        self.assertEqual(Figure([UP]).mirrored().edges, (((30, 0), (30, 1)),))
        self.assertEqual(Figure([((2, 7), (3, 7))]).mirrored().edges, (((27, 7), (28, 7)),))

    def test_each_point_is_moved(self):
        for figure in sample_figures() + [Figure(ALL_EDGES[:400]), Figure(ALL_EDGES[-400:])]:
            for result, move in (
                (figure.turned(), lambda x, y: (30 - y, x)), (figure.mirrored(), lambda x, y: (30 - x, y)),
            ):
                expected = sorted(tuple(sorted(move(*point) for point in edge)) for edge in figure.edges)
                self.assertEqual(result.edges, tuple(expected))
                self.assertIs(type(result), Figure)

    def test_round_again(self):
        for figure in sample_figures():
            self.assertEqual(figure.turned().turned().turned().turned(), figure)
            self.assertEqual(figure.mirrored().mirrored(), figure)
            self.assertEqual(figure.turned().mirrored(), figure.mirrored().turned().turned().turned())

    def test_the_figures_stay_as_they_were(self):
        for figure in sample_figures():
            kept = figure.edges, figure.points(), figure.odd_points()
            figure.turned()
            figure.mirrored()
            for dx, dy in ((0, 0), (1, 2), (-1, 0), (30, 30), (31, 0)):
                try:
                    self.assertIsNot(figure.shifted(dx, dy), figure)
                except NevercrossedError:
                    pass
            self.assertEqual((figure.edges, figure.points(), figure.odd_points()), kept)
