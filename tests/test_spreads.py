"""Plans that spread [9] and [151] to [154]."""

import itertools
import random
import time

from nevercrossed.cells import border
from nevercrossed.counting import count
from nevercrossed.errors import (
    InvalidColor, InvalidFigure, InvalidNumber, InvalidPoints, NotEven, NotOnePiece, TooLarge,
)
from nevercrossed.fewest import pieces
from nevercrossed.figures import Figure
from nevercrossed.plans import Plan
from nevercrossed.regions import Regions
from nevercrossed.spreads import fixed_words, opposite, spread, spread_bound, spread_paper
from nevercrossed.texts import read_picture
from tests.helper import Case, any_values
from tests.samples import (
    ALL_CELLS, BOTH, CHAIN, RING, SQUARE, WITHIN, balanced_figures, checkered, crossings_of, diagonal, joined_points,
    one_lines, parted_points, parts_by_hand, rich_figures, single_figures,
)

COLORS = ("dark", "light")


def points_of(plan, color):
    return joined_points(plan) if color == "dark" else parted_points(plan)


def reached(plans, color):
    """Return how many points are joined, or parted, in at least one of some plans."""
    return len(set().union(*[points_of(plan, color) for plan in plans]))


def bound_by_hand(figure, points, k, color):
    regions = Regions(figure)
    nodes = range(len(regions.dark if color == "dark" else regions.light))
    parts = parts_by_hand(nodes, [regions.between(color, point) for point in points])
    return len(crossings_of(figure)) - len(points) + k * (len(nodes) - parts)


def large_ones():
    """Return figures with 55 to 80 points of degree 4."""
    chance = random.Random(151)
    found = [checkered(9, 11), checkered(5, 21), checkered(6, 17), checkered(3, 30), checkered(9, 10).turned()]
    while len(found) < 12:
        cells = [(x, y) for x in range(11) for y in range(11) if (chance.random() < 0.93) == ((x + y) % 2 == 0)]
        figure = max(pieces(border(cells)), key=len)
        if 55 <= len(crossings_of(figure)) <= 80:
            found.append(figure)
    return found


def most_by_hand(figure, k, color):
    """Return how many points any k plans of one line join or part together."""
    halves = [frozenset(points_of(plan, color)) for plan in one_lines(figure)]
    unions = {frozenset()}
    for _ in range(k):
        unions = {union | half for union in unions for half in halves}
    return max(len(union) for union in unions)


class TestSpread(Case):
    def check(self, figure, k, color):
        """Check that the plans reach the bound of the paper, and return the number of points."""
        plans = spread(figure, k, color=color)
        self.assertIs(type(plans), tuple)
        self.assertEqual(len(plans), k)
        for plan in plans:
            self.assertIs(type(plan), Plan)
            self.assertIs(plan.figure, figure)
            self.assertEqual(len(plan.lines()), 1)
        paper = spread_paper(figure, k, color=color)
        self.assertIs(type(paper), tuple)
        self.assertEqual(len(set(paper)), len(paper))
        many = reached(plans, color)
        self.assertEqual(spread_bound(figure, paper, k, color=color), many)
        self.assertEqual(bound_by_hand(figure, paper, k, color), many)
        return many

    def test_all_sets_of_plans_of_small_figures(self):
        for figure in [SQUARE, BOTH, CHAIN, WITHIN] + single_figures(20, 5, 7) + rich_figures(30, 8):
            for k, color in itertools.product((1, 2, 3), COLORS):
                self.assertEqual(self.check(figure, k, color), most_by_hand(figure, k, color))

    def test_figures_of_any_size(self):
        for figure in single_figures(30, 8, 80) + rich_figures(40, 20) + large_ones():
            before = 0
            for k, color in itertools.product(range(1, 7), COLORS):
                many = self.check(figure, k, color)
                regions = Regions(figure)
                size = len(regions.dark if color == "dark" else regions.light)
                if k == 1:
                    self.assertEqual(many, size - 1)
                self.assertLessEqual(many, min(len(crossings_of(figure)), k * (size - 1)))

    def test_k_from_1_to_6(self):
        for figure in (RING, checkered(5, 5), checkered(3, 9)):
            found = [self.check(figure, k, "light") for k in range(1, 7)]
            self.assertEqual(found, sorted(found))
        # There are two light regions and four points between them: each plan parts one point.
        self.assertEqual([self.check(RING, k, "light") for k in range(1, 7)], [1, 2, 3, 4, 4, 4])
        self.assertEqual([self.check(RING, k, "dark") for k in range(1, 7)], [3, 4, 4, 4, 4, 4])

    def test_the_color_is_dark_if_not_given(self):
        for figure in rich_figures(10):
            for k in (1, 2, 3):
                self.assertEqual(spread(figure, k), spread(figure=figure, k=k, color="dark"))
                self.assertEqual(spread_paper(figure, k), spread_paper(figure=figure, k=k, color="dark"))
                points = crossings_of(figure)[:3]
                self.assertEqual(
                    spread_bound(figure, points, k), spread_bound(figure=figure, points=points, k=k, color="dark")
                )

    def test_two_plans_differ_most(self):
        for figure in rich_figures(30, 8):
            plans = one_lines(figure)
            most = max(self.differing(one, other) for one in plans for other in plans)
            for color in COLORS:
                self.assertEqual(self.differing(*spread(figure, 2, color=color)), most)

    def differing(self, one, other):
        return len([point for point in crossings_of(one.figure) if one[point] != other[point]])

    def test_no_points_of_degree_4(self):
        for figure in (SQUARE, border(ALL_CELLS)):
            for k, color in itertools.product(range(1, 7), COLORS):
                self.assertEqual(spread(figure, k, color=color), (Plan(figure, {}),) * k)
                self.assertEqual(spread_paper(figure, k, color=color), ())
                self.assertEqual(spread_bound(figure, (), k, color=color), 0)

    def test_large_figures_in_no_time(self):
        figures = [Figure(figure.edges) for figure in large_ones() for _ in range(12)]
        started = time.process_time()
        for at, figure in enumerate(figures):
            spread(figure, at % 6 + 1, color=COLORS[at // 6 % 2])
        # Each takes about two thousandths of a second.
        self.assertLess(time.process_time() - started, len(figures) * 0.03)


class TestSpreadBound(Case):
    def test_any_points(self):
        chance = random.Random(152)
        for figure in single_figures(20, 6) + rich_figures(30, 20) + [checkered(9, 11)]:
            crossings = crossings_of(figure)
            for k, color in itertools.product(range(1, 7), COLORS):
                points = chance.sample(crossings, chance.randint(0, len(crossings)))
                expected = bound_by_hand(figure, points, k, color)
                self.assertEqual(spread_bound(figure, points, k, color=color), expected)
                self.assertEqual(spread_bound(figure, tuple(points[::-1]), k, color=color), expected)
                self.assertIs(type(expected), int)

    def test_none_and_all(self):
        for figure in rich_figures(20) + [checkered(9, 11)]:
            regions = Regions(figure)
            crossings = crossings_of(figure)
            for k in range(1, 7):
                self.assertEqual(spread_bound(figure, [], k), len(crossings))
                self.assertEqual(spread_bound(figure, (), k, color="light"), len(crossings))
                self.assertEqual(spread_bound(figure, crossings, k), k * (len(regions.dark) - 1))
                self.assertEqual(spread_bound(figure, crossings, k, color="light"), k * (len(regions.light) - 1))

    def test_each_set_of_points_is_a_bound(self):
        for figure in rich_figures(12, 6):
            crossings = crossings_of(figure)
            sets = [points for many in range(len(crossings) + 1) for points in itertools.combinations(crossings, many)]
            for k, color in itertools.product((1, 2, 3), COLORS):
                bounds = [spread_bound(figure, points, k, color=color) for points in sets]
                self.assertEqual(min(bounds), most_by_hand(figure, k, color))

    def test_loops(self):
        # A point between a region and itself connects nothing.
        self.assertEqual(spread_bound(BOTH, [(1, 1)], 6, color="light"), 0)
        self.assertEqual(spread_bound(BOTH, [(1, 1)], 6, color="dark"), 6)
        self.assertEqual(spread_bound(WITHIN, [(1, 1), (3, 3)], 2), 2)

    def test_an_argument_stays_as_it_was(self):
        points = [(2, 2), (1, 1)]
        spread_bound(RING, points, 2)
        self.assertEqual(points, [(2, 2), (1, 1)])


class TestOpposite(Case):
    def check(self, figure):
        """Check what is returned, and return whether it is a plan."""
        found = opposite(figure)
        many = len(crossings_of(figure))
        if isinstance(found, Plan):
            self.assertIs(found.figure, figure)
            other = found.turned(crossings_of(figure))
            self.assertEqual([len(found.lines()), len(other.lines())], [1, 1])
            return True
        self.assertIs(type(found), tuple)
        color, points = found
        self.assertIn(color, COLORS)
        self.assertIs(type(points), tuple)
        self.assertLess(spread_bound(figure, points, 2, color=color), many)
        self.assertLess(bound_by_hand(figure, points, 2, color), many)
        return False

    def test_all_plans_of_small_figures(self):
        found = []
        figures = [SQUARE, BOTH, CHAIN, WITHIN] + single_figures(30, 5, 8) + rich_figures(20, 8) + balanced_figures()
        for figure in figures:
            crossings = crossings_of(figure)
            plans = [plan for plan in one_lines(figure) if len(plan.turned(crossings).lines()) == 1]
            self.assertEqual(self.check(figure), plans != [])
            found.append(plans != [] and crossings != [])
        self.assertGreater(found.count(True), 5)
        self.assertGreater(found.count(False), 20)

    def test_as_many_regions_of_each_color(self):
        # Without as many dark regions as light ones there is no such plan; with as many, not always.
        found = []
        for figure in rich_figures(30, 14) + balanced_figures(60, 40, 8) + large_ones():
            regions = Regions(figure)
            if len(regions.dark) != len(regions.light):
                self.assertFalse(self.check(figure))
                self.assertFalse(self.check(figure.mirrored()))
            else:
                found.append(self.check(figure))
                self.assertEqual(self.check(figure.turned()), found[-1])
        self.assertGreater(found.count(True), 5)
        self.assertGreater(found.count(False), 5)

    def test_both_colors(self):
        self.assertEqual(opposite(RING)[0], "light")
        self.assertEqual(opposite(figure=BOTH)[0], "light")
        # In a frame that touches itself, the dark graph has a loop.
        frame = border([cell for cell in ((x, y) for x in range(3) for y in range(3)) if cell not in ((0, 0), (1, 1))])
        self.assertEqual([len(crossings_of(frame)), opposite(frame)[0]], [1, "dark"])

    def test_no_points_of_degree_4(self):
        self.assertEqual(opposite(SQUARE), Plan(SQUARE, {}))


class TestFixedWords(Case):
    def test_all_plans_of_small_figures(self):
        for figure in [SQUARE, BOTH, CHAIN, WITHIN] + single_figures(40, 5, 8) + rich_figures(30, 8):
            plans = one_lines(figure)
            expected = {}
            for point in crossings_of(figure):
                words = {plan[point] for plan in plans}
                if len(words) == 1:
                    expected[point] = words.pop()
            self.assertEqual(fixed_words(figure), expected)
            self.assertIs(type(fixed_words(figure)), dict)

    def test_80_points(self):
        # The dark cells at the corners have one point each.
        corners = {(1, 1): "rd", (1, 10): "ru", (8, 1): "ru", (8, 10): "rd"}
        self.assertEqual(fixed_words(figure=checkered(9, 11)), corners)
        for figure in large_ones() + [diagonal(29)]:
            fixed = fixed_words(figure)
            self.assertEqual(len(fixed) == len(crossings_of(figure)), count(figure) == 1)
            regions = Regions(figure)
            for point in crossings_of(figure):
                others = [other for other in crossings_of(figure) if other != point]
                is_joined = spread_bound(figure, others, 1) < len(regions.dark)
                is_parted = spread_bound(figure, others, 1, color="light") < len(regions.light)
                word = regions.joining(point)
                if is_joined:
                    self.assertEqual(fixed[point], word)
                elif is_parted:
                    self.assertEqual(fixed[point], "rd" if word == "ru" else "ru")
                else:
                    self.assertNotIn(point, fixed)

    def test_the_dict_is_new(self):
        fixed_words(BOTH).clear()
        self.assertEqual(fixed_words(BOTH), {(1, 1): "rd"})


class TestErrors(Case):
    def calls(self, points=(), k=1, color="dark"):
        """Return the five functions, as calls with a figure alone."""
        return [
            lambda figure: spread(figure, k, color=color), lambda figure: spread_paper(figure, k, color=color),
            lambda figure: spread_bound(figure, points, k, color=color), opposite, fixed_words,
        ]

    def test_raises_as_count_first(self):
        odd, large, larger = read_picture("+-+"), checkered(10, 10), checkered(13, 13)
        for call in self.calls() + self.calls(None, None, None)[:3]:
            for value in any_values():
                if not isinstance(value, Figure):
                    self.raises_it(InvalidFigure, value, call, value)
            self.raises_like(NotEven, (0, 0), call, odd)
            for figure in (Figure(), SQUARE | SQUARE.shifted(3, 3)):
                self.raises_it(NotOnePiece, figure, call, figure)
            self.raises_like(TooLarge, 81, call, large)
            self.raises_like(TooLarge, 144, call, larger)
        for call in self.calls():
            call(checkered(9, 11))

    def test_not_a_number_of_plans(self):
        wrong = [0, 7, -1, 10 ** 30 - 1, True, False, "1", (1,), [1], 1.0, None, "dark"]
        for value in wrong + [value for value in any_values() if value not in (1, 2) or isinstance(value, bool)]:
            for call in self.calls(k=value)[:3] + self.calls(k=value, color=None)[:3]:
                self.raises_it(InvalidNumber, value, call, RING)

    def test_not_a_color(self):
        for value in any_values() + ["Dark", "lights", ["dark"], ("dark",), ("dark", "light")]:
            for call in self.calls(color=value)[:3]:
                self.raises_it(InvalidColor, value, call, RING)
        for function in (spread, spread_paper):
            self.assertRaises(TypeError, function, RING, 1, "dark")
        self.assertRaises(TypeError, spread_bound, RING, [], 1, "dark")

    def test_not_points(self):
        point = (1, 1)
        wrong = [
            [point, point], (point, (1, 2), point), [(0, 1)], [(9, 9)], [point, None], [[1, 1]], [(True, 1)],
            [(1, True), (1, 2)], point, {point: True}, {point: "ru"}, "11", [point, (1, 2), (2, 1), (2, 2), (0, 1)],
        ]
        for value in wrong + [value for value in any_values() if value != []]:
            self.raises_it(InvalidPoints, value, spread_bound, RING, value, 1)
            self.raises_it(InvalidPoints, value, spread_bound, RING, value, None, color=None)
        self.assertEqual(spread_bound(RING, [], 1), 4)
