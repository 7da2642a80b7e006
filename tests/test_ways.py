"""From plan to plan [9], [101] and [102]."""

import random
import time

from nevercrossed.cells import border
from nevercrossed.errors import InvalidPlan, InvalidPoints, NotEven, NotOneLine, NotOnePiece, UnlikeFigures
from nevercrossed.figures import Figure
from nevercrossed.plans import Plan
from nevercrossed.texts import read_picture
from nevercrossed.ways import line_numbers, way
from tests.helper import Case, any_values
from tests.samples import (
    BOTH, CHAIN, RING, SQUARE, WITHIN, any_figures, checkered, crossings_of, degree_points, even_figures, large_figures,
    lines_by_hand, one_line_plan, one_lines, random_plan, rich_figures, single_figures,
)


def numbers_by_hand(plan, points):
    turns = plan.turns()
    numbers = [len(lines_by_hand(plan.figure, turns))]
    for point in points:
        turns[point] = "rd" if turns[point] == "ru" else "ru"
        numbers.append(len(lines_by_hand(plan.figure, turns)))
    return tuple(numbers)


class TestWay(Case):
    def check(self, plan, other):
        points = way(plan, other)
        self.assertIs(type(points), tuple)
        differing = [point for point in crossings_of(plan.figure) if plan[point] != other[point]]
        self.assertEqual(sorted(points), differing)
        at = plan
        for index, point in enumerate(points):
            at = at.turned([point])
            self.assertEqual(len(at.lines()), 2 - index % 2)
        self.assertEqual(at, other)
        self.assertEqual(line_numbers(plan, points), (1,) + (2, 1) * (len(points) // 2))

    def test_to_itself(self):
        for figure in [SQUARE, BOTH, CHAIN, WITHIN, checkered(13, 13)] + single_figures(20):
            plan = one_line_plan(figure, 1)
            self.assertEqual(way(plan, plan), ())
            self.assertEqual(way(plan, Plan(Figure(figure.edges), plan.turns())), ())

    def test_all_pairs_of_plans(self):
        for figure in single_figures(20, 5, 8) + rich_figures():
            plans = one_lines(figure)[:12]
            for plan in plans:
                for other in plans:
                    self.check(plan, other)

    def test_two_points(self):
        plan, other = one_lines(RING)[:2]
        self.assertEqual(len(way(plan, other)), 2)
        self.assertEqual(len(way(plan=other, other=plan)), 2)

    def test_figures_of_any_size(self):
        for figure in single_figures(40, 9) + rich_figures(30, 20) + [checkered(9, 11)]:
            plans = [one_line_plan(figure, seed) for seed in range(3)]
            for plan in plans:
                for other in plans:
                    self.check(plan, other)

    def test_many_points_in_no_time(self):
        pairs = []
        for figure in (checkered(10, 10), checkered(13, 13), checkered(13, 15), checkered(4, 30)):
            plans = [one_line_plan(figure, seed) for seed in range(4)]
            pairs += [(plan, other) for plan in plans for other in plans if plan != other]
        started = time.process_time()
        for plan, other in pairs:
            way(plan, other)
        # Each takes about a thousandth of a second.
        self.assertLess(time.process_time() - started, 48 * 0.02)
        for plan, other in pairs[::5]:
            self.check(plan, other)

    def test_not_plans(self):
        plan = one_lines(RING)[0]
        for value in any_values():
            if not isinstance(value, Plan):
                self.raises_it(InvalidPlan, value, way, value, value)
                self.raises_it(InvalidPlan, value, way, value, plan)
                self.raises_it(InvalidPlan, value, way, plan, value)
        # Before anything is asked of the figures.
        self.raises_it(InvalidPlan, None, way, Plan(read_picture("+-+"), {}), None)
        self.raises_it(InvalidPlan, None, way, Plan(Figure(), {}), None)

    def test_raises_as_regions(self):
        odd, square = Plan(read_picture("+-+-+"), {}), Plan(SQUARE, {})
        self.raises_like(NotEven, (0, 0), way, odd, odd)
        self.raises_like(NotEven, (0, 0), way, odd, square)
        for figure in (Figure(), SQUARE | SQUARE.shifted(3, 3), BOTH | RING.shifted(9, 9)):
            several = random_plan(figure, 1)
            self.raises_it(NotOnePiece, several.figure, way, several, several)
            self.raises_it(NotOnePiece, several.figure, way, several, square)
            # The figure of the second one is only compared.
            self.raises_it(UnlikeFigures, several, way, square, several)
        self.raises_it(UnlikeFigures, odd, way, square, odd)

    def test_unlike_figures(self):
        one, two = Plan(BOTH, {(1, 1): "rd"}), Plan(BOTH, {(1, 1): "ru"})
        for other in (Plan(SQUARE, {}), Plan(BOTH.shifted(1, 0), {(2, 1): "rd"}), one_lines(RING)[0]):
            self.raises_it(UnlikeFigures, other, way, one, other)
            self.raises_it(UnlikeFigures, other, way, two, other)
        moved = Plan(BOTH.shifted(0, 1), {(1, 2): "ru"})
        self.raises_it(UnlikeFigures, moved, way, one, moved)

    def test_not_one_line(self):
        plan = one_lines(RING)[0]
        two, three = plan.turned([(1, 1)]), Plan(RING, {point: "ru" for point in crossings_of(RING)})
        self.raises_it(NotOneLine, two, way, two, plan)
        self.raises_it(NotOneLine, two, way, plan, two)
        self.raises_it(NotOneLine, two, way, two, two)
        self.raises_it(NotOneLine, three, way, three, two)
        for figure in even_figures(30):
            plan = random_plan(figure, 7)
            if len(figure) and len(plan.lines()) > 1 and figure in single_figures(60):
                self.raises_it(NotOneLine, plan, way, plan, plan)


class TestLineNumbers(Case):
    def check(self, plan, points):
        found = line_numbers(plan, points)
        self.assertIs(type(found), tuple)
        self.assertEqual(found, numbers_by_hand(plan, points))
        self.assertEqual(line_numbers(plan, tuple(points)), found)

    def test_no_points(self):
        for figure in any_figures(20) + [SQUARE, WITHIN]:
            plan = random_plan(figure, 2)
            self.assertEqual(line_numbers(plan, []), (len(plan.lines()),))
            self.assertEqual(line_numbers(plan=plan, points=()), (len(plan.lines()),))

    def test_each_point_of_any_figure(self):
        for figure in any_figures(60) + even_figures(40) + [CHAIN, RING, WITHIN]:
            plan = random_plan(figure, 3)
            for point in crossings_of(figure):
                self.check(plan, [point])

    def test_points_given_several_times(self):
        for seed, figure in enumerate(any_figures(60) + even_figures(40)):
            crossings = crossings_of(figure)
            if crossings:
                self.check(random_plan(figure, seed), random.Random(seed).choices(crossings, k=9))
        point = (1, 1)
        self.assertEqual(line_numbers(Plan(BOTH, {point: "rd"}), [point] * 60), (1,) + (2, 1) * 30)

    def test_a_line_with_ends_through_one_point_twice(self):
        # One line: turning cuts its loop off, or goes through the loop the other way round.
        loop = read_picture("  +-+\n  | |\n+-+-+\n  |\n  +")
        self.assertEqual(line_numbers(Plan(loop, {(1, 1): "ru"}), [(1, 1)]), (2, 1))
        self.assertEqual(line_numbers(Plan(loop, {(1, 1): "rd"}), [(1, 1), (1, 1)]), (1, 2, 1))
        bent = read_picture("+-+-+\n| | |\n+-+-+\n  | |\n  + +")
        plans = [random_plan(bent, seed) for seed in range(20)]
        for plan in plans:
            self.check(plan, [(1, 1), (1, 1)])

    def test_two_lines_with_ends_exchange_them(self):
        cross = read_picture("  +\n  |\n+-+-+\n  |\n  +")
        for word in ("ru", "rd"):
            self.assertEqual(line_numbers(Plan(cross, {(1, 1): word}), [(1, 1), (1, 1), (1, 1)]), (2, 2, 2, 2))

    def test_several_pieces(self):
        figure = BOTH | RING.shifted(5, 5) | read_picture("+-+")
        for seed in range(10):
            self.check(random_plan(figure, seed), random.Random(seed).choices(crossings_of(figure), k=12))

    def test_60_points_of_large_figures_in_no_time(self):
        needed = 0
        for figure in large_figures() + [checkered(13, 13), checkered(13, 15)]:
            crossings = crossings_of(figure)
            if crossings:
                plan = random_plan(figure, 4)
                points = random.Random(5).choices(crossings, k=60)
                started = time.process_time()
                found = line_numbers(plan, points)
                needed += time.process_time() - started
                self.assertEqual(len(found), 61)
                for index in (1, 17, 60):
                    turned = plan
                    for point in points[:index]:
                        turned = turned.turned([point])
                    self.assertEqual(found[index], len(turned.lines()))
        # Each takes about two thousandths of a second.
        self.assertLess(needed, 10 * 0.03)

    def test_nothing_is_changed(self):
        plan = one_lines(RING)[0]
        points = [(1, 1), (2, 2), (1, 1)]
        turns = plan.turns()
        line_numbers(plan, points)
        self.assertEqual([points, plan.turns()], [[(1, 1), (2, 2), (1, 1)], turns])

    def test_not_a_plan(self):
        for value in any_values():
            if not isinstance(value, Plan):
                self.raises_it(InvalidPlan, value, line_numbers, value, None)
                self.raises_it(InvalidPlan, value, line_numbers, value, [])

    def test_not_points_of_degree_4(self):
        house = read_picture("+-+-+\n| | |\n+-+-+\n  | |\n  +-+-+")
        plan = random_plan(house, 1)
        self.assertEqual(len(line_numbers(plan, crossings_of(house))), 2)
        for value in any_values():
            if value not in ([], ()):
                self.raises_it(InvalidPoints, value, line_numbers, plan, value)
            self.raises_it(InvalidPoints, items := [(1, 1), value], line_numbers, plan, items)
        for point in house.points() + ((9, 9), (30, 30)):
            if point not in crossings_of(house):
                self.raises_it(InvalidPoints, items := [point], line_numbers, plan, items)
                self.raises_it(InvalidPoints, items := ((1, 1), point), line_numbers, plan, items)
        self.assertGreater(len(degree_points(house, 3)), 0)
        for value in ((1, 1), [[1, 1]], [(True, 1)], {(1, 1): True}, [(1, 1), None], "11"):
            self.raises_it(InvalidPoints, value, line_numbers, plan, value)
        self.raises_it(InvalidPoints, value := [(1, 1)], line_numbers, Plan(border([(0, 0)]), {}), value)
