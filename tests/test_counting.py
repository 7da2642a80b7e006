"""The plans counted [9] and [91] to [93]."""

import random
import time

from nevercrossed.cells import border
from nevercrossed.counting import count, counts_by_lines, nth_plan, number_of
from nevercrossed.errors import (
    InvalidColor, InvalidFigure, InvalidNumber, InvalidPlan, NotEven, NotOneLine, NotOnePiece, TooLarge,
)
from nevercrossed.figures import Figure
from nevercrossed.plans import Plan
from nevercrossed.regions import Regions
from nevercrossed.texts import read_picture
from tests.helper import Case, any_values
from tests.samples import (
    ALL_CELLS, BOTH, CHAIN, RING, SQUARE, WITHIN, all_plans, checkered, crossings_of, diagonal, one_lines, random_plan,
    single_figures,
)


def spanning_trees_by_hand(figure, color):
    """Return the number of spanning trees: those without an edge, and those in which its nodes are one."""
    regions = Regions(figure)
    pairs = [regions.between(color, point) for point in regions.crossings()]

    def trees(nodes, left):
        if not left:
            return 1 if nodes == 1 else 0
        one, other = left[0]
        if one == other:
            return trees(nodes, left[1:])
        merged = [tuple(one if node == other else node for node in pair) for pair in left[1:]]
        return trees(nodes, left[1:]) + trees(nodes - 1, merged)

    return trees(len(regions.dark if color == "dark" else regions.light), pairs)


class TestCount(Case):
    def test_small(self):
        for figure, many in ((SQUARE, 1), (BOTH, 1), (CHAIN, 1), (RING, 4), (WITHIN, 1), (diagonal(20), 1)):
            self.assertEqual([count(figure), count(figure, color="light")], [many, many])
            self.assertEqual(count(color="dark", figure=figure), many)

    def test_plans_of_one_line(self):
        for figure in single_figures(40, 5, 8):
            many = len(one_lines(figure))
            self.assertGreater(many, 0)
            self.assertEqual([count(figure), count(figure, color="light")], [many, many])

    def test_spanning_trees_of_both_colors(self):
        for figure in single_figures(40, 6, 11):
            for color in ("dark", "light"):
                self.assertEqual(count(figure, color=color), spanning_trees_by_hand(figure, color))

    def test_no_points_of_degree_4(self):
        for figure in (SQUARE, border(ALL_CELLS), read_picture("+-+-+\n|   |\n+-+-+")):
            self.assertEqual([count(figure), count(figure, color="light")], [1, 1])

    def test_chessboards(self):
        # The dark graph is a star; and a chain of 13 rounds of four regions.
        self.assertEqual(count(checkered(3, 3)), 1)
        self.assertEqual(count(checkered(3, 29)), 4 ** 13)
        self.assertEqual(count(checkered(5, 5)), spanning_trees_by_hand(checkered(5, 5), "light"))
        for width, height in ((3, 3), (5, 5), (9, 11), (3, 29), (7, 9)):
            figure = checkered(width, height)
            self.assertEqual(count(figure), count(figure, color="light"))

    def test_moved_figures_have_as_many(self):
        for figure in single_figures(40) + [checkered(9, 11)]:
            for other in (figure.turned(), figure.mirrored(), figure.turned().turned().turned()):
                self.assertEqual(count(other), count(figure))

    def test_80_and_81_points(self):
        self.assertEqual(len(crossings_of(checkered(9, 11))), 80)
        for figure in (checkered(9, 11), checkered(5, 21), checkered(6, 17)):
            self.assertEqual(count(figure), count(figure, color="light"))
        for figure, many in ((checkered(10, 10), 81), (checkered(4, 28), 81), (checkered(13, 13), 144)):
            self.assertEqual(len(crossings_of(figure)), many)
            self.raises_like(TooLarge, many, count, figure)
            self.raises_like(TooLarge, many, count, figure, color="light")

    def test_raises_as_regions(self):
        for value in any_values():
            if not isinstance(value, Figure):
                self.raises_it(InvalidFigure, value, count, value)
                self.raises_it(InvalidFigure, value, count, value, color=None)
        self.raises_like(NotEven, (0, 0), count, read_picture("+-+"), color=3)
        for figure in (Figure(), SQUARE | SQUARE.shifted(3, 3)):
            self.raises_it(NotOnePiece, figure, count, figure, color=3)

    def test_not_a_color(self):
        for value in any_values() + ["Dark", "lights", ["dark"], ("dark",), ("dark", "light")]:
            self.raises_it(InvalidColor, value, count, RING, color=value)
        self.raises_like(TooLarge, 81, count, checkered(10, 10), color="red")
        self.assertRaises(TypeError, count, RING, "dark")


class TestNumbers(Case):
    def test_each_index_of_small_figures(self):
        for figure in single_figures(40, 5, 8):
            plans = one_lines(figure)
            for index, plan in enumerate(plans):
                self.assertEqual(nth_plan(figure, index), plan)
                self.assertEqual(number_of(plan), index)
                self.assertIs(type(nth_plan(figure, index)), Plan)
                self.assertIs(nth_plan(figure, index).figure, figure)

    def test_by_name(self):
        self.assertEqual(number_of(plan=nth_plan(figure=RING, n=3)), 3)

    def test_no_points_of_degree_4(self):
        self.assertEqual(nth_plan(SQUARE, 0), Plan(SQUARE, {}))
        self.assertEqual(number_of(Plan(SQUARE, {})), 0)

    def test_ru_comes_first(self):
        self.assertEqual(nth_plan(RING, 0)[(1, 1)], "ru")
        self.assertEqual(nth_plan(RING, 3)[(1, 1)], "rd")
        for figure in (checkered(9, 11), checkered(5, 21)):
            many = count(figure)
            points = crossings_of(figure)
            chosen = sorted(random.Random(92).sample(range(many), 12)) + [many - 1]
            plans = [nth_plan(figure, index) for index in chosen]
            words = [[plan[point] == "rd" for point in points] for plan in plans]
            self.assertEqual(words, sorted(words))

    def test_large_indexes_in_no_time(self):
        started = time.process_time()
        for figure in (checkered(9, 11), checkered(5, 21), checkered(6, 17), checkered(9, 11).turned()):
            many = count(figure)
            chance = random.Random(many)
            for index in [0, 1, many // 2, many - 2, many - 1] + [chance.randrange(many) for _ in range(5)]:
                plan = nth_plan(figure, index)
                self.assertEqual(len(plan.lines()), 1)
                self.assertEqual(number_of(plan), index)
        # 80 calls with 80 points of degree 4: each takes about a hundredth of a second.
        self.assertLess(time.process_time() - started, 16)

    def test_not_an_index(self):
        for figure in (SQUARE, BOTH, RING, checkered(9, 11)):
            many = count(figure)
            for value in (-1, many, many + 1, 10 ** 30 - 1, -(10 ** 30 - 1), True, False, None, "0", "", [0], (0,), {}):
                self.raises_it(InvalidNumber, value, nth_plan, figure, value)
            for value in any_values():
                if type(value) is not int:
                    self.raises_it(InvalidNumber, value, nth_plan, figure, value)

    def test_raises_as_count(self):
        for value in any_values():
            if not isinstance(value, Figure):
                self.raises_it(InvalidFigure, value, nth_plan, value, None)
            if not isinstance(value, Plan):
                self.raises_it(InvalidPlan, value, number_of, value)
        odd, large = read_picture("+-+"), checkered(10, 10)
        self.raises_like(NotEven, (0, 0), nth_plan, odd, None)
        self.raises_like(NotEven, (0, 0), number_of, Plan(odd, {}))
        for figure in (Figure(), SQUARE | SQUARE.shifted(3, 3)):
            self.raises_it(NotOnePiece, figure, nth_plan, figure, None)
            self.raises_it(NotOnePiece, figure, number_of, Plan(figure, {}))
        self.raises_like(TooLarge, 81, nth_plan, large, None)
        # Whether it is one line or not.
        self.raises_like(TooLarge, 81, number_of, random_plan(large, 1))

    def test_not_one_line(self):
        for figure in single_figures(30, 5, 7):
            for plan in all_plans(figure):
                if len(plan.lines()) > 1:
                    self.raises_it(NotOneLine, plan, number_of, plan)
        figure = checkered(9, 11)
        for seed in range(5):
            self.raises_it(NotOneLine, plan := random_plan(figure, seed), number_of, plan)
        plan = nth_plan(figure, 10 ** 16)
        for point in crossings_of(figure):
            self.raises_it(NotOneLine, turned := plan.turned([point]), number_of, turned)


class TestCountsByLines(Case):
    def test_small(self):
        self.assertEqual(counts_by_lines(SQUARE), {1: 1})
        self.assertEqual(counts_by_lines(figure=BOTH), {1: 1, 2: 1})
        self.assertEqual(counts_by_lines(CHAIN), {1: 1, 2: 2, 3: 1})
        self.assertEqual(counts_by_lines(border(ALL_CELLS)), {1: 1})

    def test_all_plans_counted(self):
        for figure in single_figures(40, 5, 8) + [WITHIN]:
            expected = {}
            for plan in all_plans(figure):
                many = len(plan.lines())
                expected[many] = expected.get(many, 0) + 1
            self.assertEqual(counts_by_lines(figure), expected)
            self.assertEqual(expected[1], count(figure))

    def test_moved_figures_have_as_many(self):
        for figure in single_figures(60, 6, 12):
            found = counts_by_lines(figure)
            self.assertEqual(sum(found.values()), 2 ** len(crossings_of(figure)))
            for other in (figure.turned(), figure.mirrored(), figure.turned().turned()):
                self.assertEqual(counts_by_lines(other), found)

    def test_12_and_13_points(self):
        for figure in (diagonal(12), checkered(4, 5), checkered(3, 7), checkered(2, 13)):
            self.assertEqual(len(crossings_of(figure)), 12)
            found = counts_by_lines(figure)
            self.assertEqual([sum(found.values()), found[1]], [4096, count(figure)])
        self.assertEqual(counts_by_lines(diagonal(12))[2], 12)
        for figure in (diagonal(13), checkered(2, 14)):
            self.assertEqual(len(crossings_of(figure)), 13)
            self.raises_like(TooLarge, 13, counts_by_lines, figure)
        self.raises_like(TooLarge, 81, counts_by_lines, checkered(10, 10))

    def test_the_dict_is_new(self):
        found = counts_by_lines(RING)
        found[1] = 0
        self.assertEqual(counts_by_lines(RING), {1: 4, 2: 7, 3: 4, 4: 1})
        self.assertIs(type(found), dict)

    def test_raises_as_regions(self):
        for value in any_values():
            if not isinstance(value, Figure):
                self.raises_it(InvalidFigure, value, counts_by_lines, value)
        self.raises_like(NotEven, (0, 0), counts_by_lines, read_picture("+-+"))
        for figure in (Figure(), SQUARE | SQUARE.shifted(3, 3)):
            self.raises_it(NotOnePiece, figure, counts_by_lines, figure)
