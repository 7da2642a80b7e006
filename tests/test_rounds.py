"""The rounds [5], [9] and [81] to [83]."""

import itertools
import random

from nevercrossed.cells import border
from nevercrossed.errors import InvalidFigure, InvalidPlan, NotEven, NotOnePiece
from nevercrossed.figures import Figure
from nevercrossed.plans import Plan
from nevercrossed.regions import Regions
from nevercrossed.rounds import is_round, mended, round_numbers, shows_not, why_not
from nevercrossed.texts import read_picture
from tests.helper import Case, any_values
from tests.samples import (
    BOTH, CHAIN, RING, SQUARE, WITHIN, all_plans, all_rounds, any_figures, checkered, even_figures, joined_points,
    parted_points, parts_by_hand, random_plan, single_figures,
)

POINTS = ((1, 1), (1, 2), (2, 1), (2, 2))


def independent_by_hand(figure, color, points):
    """Return edges minus nodes plus connected parts."""
    regions = Regions(figure)
    nodes = range(len(regions.dark if color == "dark" else regions.light))
    pairs = [regions.between(color, point) for point in points]
    return len(pairs) - len(nodes) + parts_by_hand(nodes, pairs)


class TestIsRound(Case):
    def test_loops(self):
        self.assertIs(is_round(BOTH, ("light", (0,), ((1, 1),))), True)
        self.assertIs(is_round(BOTH, ("dark", (0,), ((1, 1),))), False)
        self.assertIs(is_round(BOTH, ("dark", (1,), ((1, 1),))), False)
        self.assertIs(is_round(WITHIN, ("dark", (0,), ((1, 1),))), True)
        self.assertIs(is_round(WITHIN, ("light", (1,), ((3, 3),))), True)
        for thing in (
            ("light", (0,), ((3, 3),)), ("light", (1,), ((1, 1),)), ("dark", (0,), ((3, 3),)),
            ("dark", (1,), ((1, 1),)), ("light", (2,), ((3, 3),)), ("light", (-1,), ((3, 3),)),
        ):
            self.assertIs(is_round(WITHIN, thing), False)

    def test_two_regions(self):
        two = border([(0, 1), (1, 0), (1, 2), (2, 1), (0, 2), (0, 0)])
        regions = Regions(two)
        self.assertEqual(regions.between("dark", (2, 1)), regions.between("dark", (2, 2)))
        for numbers, points in itertools.product([(0, 1), (1, 0)], [((2, 1), (2, 2)), ((2, 2), (2, 1))]):
            self.assertIs(is_round(two, ("dark", numbers, points)), True)
        for numbers, points in (
            ((0, 1), ((2, 1), (2, 1))), ((0, 0), ((2, 1), (2, 2))), ((0, 1), ((2, 1),)), ((0,), ((2, 1), (2, 2))),
            ((0, 1), ((2, 1), (2, 2), (2, 1))), ((0, 1, 0), ((2, 1), (2, 2), (2, 1))), ((0,), ((2, 1),)),
        ):
            self.assertIs(is_round(two, ("dark", numbers, points)), False)

    def test_a_longer_one_in_all_ways_of_writing(self):
        # The four dark cells of the ring, one after another, and the points between them.
        numbers, points = (0, 1, 3, 2), ((1, 1), (2, 1), (2, 2), (1, 2))
        regions = Regions(RING)
        self.assertEqual(regions.dark, (((0, 1),), ((1, 0),), ((1, 2),), ((2, 1),)))
        written = []
        for at in range(4):
            turned, passed = numbers[at:] + numbers[:at], points[at:] + points[:at]
            written.append(("dark", turned, passed))
            written.append(("dark", turned[::-1], passed[:-1][::-1] + passed[-1:]))
        self.assertEqual(len(set(written)), 8)
        for thing in written:
            self.assertIs(is_round(RING, thing), True, thing)
            self.assertIs(is_round(RING, ("light",) + thing[1:]), False)
        self.assertEqual(sorted(all_rounds(RING, "dark")), sorted(written))
        for some in itertools.permutations(range(4)):
            for others in itertools.permutations(points):
                self.assertIs(is_round(RING, ("dark", some, others)), ("dark", some, others) in written)

    def test_no_ways_through_a_region_twice(self):
        figure = border([(0, 0), (1, 1), (2, 2), (1, 3), (0, 2), (3, 1), (2, 0)])
        rounds = all_rounds(figure, "dark")
        self.assertTrue(rounds)
        for thing in rounds:
            self.assertIs(is_round(figure, thing), True)
            color, numbers, points = thing
            self.assertIs(is_round(figure, (color, numbers * 2, points * 2)), False)
            self.assertIs(is_round(figure, (color, numbers + numbers[:1], points + points[:1])), False)

    def test_no_region_twice(self):
        # Both points of the chain are loops of the outside; together they are no round.
        self.assertEqual(len(all_rounds(CHAIN, "light")), 2)
        self.assertIs(is_round(CHAIN, ("light", (0,), ((2, 1),))), True)
        self.assertIs(is_round(CHAIN, ("light", (0, 0), ((1, 1), (2, 1)))), False)
        # A region in the middle with a round of four points on the left of it and one on the right.
        eight = border([(x, y) for x in range(5) for y in range(3) if (x + y) % 2 == 1])
        rounds = all_rounds(eight, "dark")
        middle = Regions(eight).find((2, 1))[1]
        sides = [thing for thing in rounds if thing[1][0] == middle]
        self.assertEqual([len(rounds), len(sides)], [16, 4])
        for _, numbers, points in sides:
            for _, others, passed in sides:
                self.assertIs(is_round(eight, ("dark", numbers + others, points + passed)), False)

    def test_all_rounds(self):
        for figure in single_figures(30, 5, 9):
            rounds = {**all_rounds(figure, "dark"), **all_rounds(figure, "light")}
            for thing in rounds:
                self.assertIs(is_round(figure, thing), True)
            for color, numbers, points in list(rounds)[:30]:
                for changed in (
                    (color, numbers[1:], points[1:]), (color, numbers, points[::-1]), (color, numbers[::-1], points),
                    ("dark" if color == "light" else "light", numbers, points),
                ):
                    self.assertIs(is_round(figure, changed), changed in rounds)

    def test_lists_and_other_values_are_no_rounds(self):
        good = ("light", (0,), ((1, 1),))
        self.assertIs(is_round(thing=good, figure=BOTH), True)
        wrong = [
            list(good), ("light", [0], ((1, 1),)), ("light", (0,), [(1, 1)]), ("light", (0,), ([1, 1],)), good[:2],
            good + (1,), ("light", (False,), ((1, 1),)), ("light", (0,), ((True, 1),)), ("light", (0,), ((1, True),)),
            ("light", (), ()), ("light", (0,), ()), ("light", (), ((1, 1),)), ("light", 0, (1, 1)), ("dark", (), ()),
            ("light", (0,), (1, 1)), ("light", (0, 0), ((1, 1), (1, 1))), ("LIGHT", (0,), ((1, 1),)), (good,), [good],
            (None, (0,), ((1, 1),)), (["light"], (0,), ((1, 1),)), ("light", ("0",), ((1, 1),)), {"light": 0},
            ("light", (0,), ((0, 0),)), ("light", (0,), ((31, 1),)), ("light", (0,), (None,)),
            ("light", (10 ** 29,), ((1, 1),)), ("light", (None,), ((1, 1),)), ("light", ([],), ({},)),
        ]
        for thing in wrong + any_values():
            self.assertIs(is_round(BOTH, thing), False, thing)

    def test_raises_as_regions(self):
        good = ("light", (0,), ((1, 1),))
        for value in any_values():
            if not isinstance(value, Figure):
                self.raises_it(InvalidFigure, value, is_round, value, good)
        self.raises_like(NotEven, (0, 0), is_round, Figure([((0, 0), (1, 0))]), good)
        for value in (Figure(), SQUARE | SQUARE.shifted(5, 5)):
            self.raises_it(NotOnePiece, value, is_round, value, None)


class TestRoundNumbers(Case):
    def test_small(self):
        self.assertEqual(round_numbers(Plan(SQUARE, {})), (0, 0))
        self.assertEqual(round_numbers(plan=Plan(BOTH, {(1, 1): "rd"})), (0, 0))
        self.assertEqual(round_numbers(Plan(BOTH, {(1, 1): "ru"})), (0, 1))
        words = {point: Regions(RING).joining(point) for point in POINTS}
        all_joined = Plan(RING, words)
        self.assertEqual(round_numbers(all_joined), (1, 0))
        self.assertEqual(round_numbers(all_joined.turned(POINTS[:1])), (0, 0))
        self.assertEqual(round_numbers(all_joined.turned(POINTS)), (0, 3))

    def test_both_at_once(self):
        joined, parted = {point: Regions(WITHIN).joining(point) for point in ((1, 1), (3, 3))}, ((1, 1), (3, 3))
        self.assertEqual(round_numbers(Plan(WITHIN, joined)), (1, 0))
        self.assertEqual(round_numbers(Plan(WITHIN, joined).turned([(3, 3)])), (1, 1))
        self.assertEqual(round_numbers(Plan(WITHIN, joined).turned(parted)), (0, 1))
        self.assertEqual(round_numbers(Plan(WITHIN, joined).turned([(1, 1)])), (0, 0))

    def test_the_number_of_lines(self):
        for figure in single_figures(30, 5, 7):
            for plan in all_plans(figure):
                dark, light = round_numbers(plan)
                self.assertIs(type(round_numbers(plan)), tuple)
                self.assertEqual(len(plan.lines()), 1 + dark + light)
                self.assertEqual(dark, independent_by_hand(figure, "dark", joined_points(plan)))
                self.assertEqual(light, independent_by_hand(figure, "light", parted_points(plan)))

    def test_large_figures(self):
        for seed, figure in enumerate(single_figures(30) + [checkered(9, 11), checkered(13, 13), checkered(3, 29)]):
            plan = random_plan(figure, seed)
            dark, light = round_numbers(plan)
            self.assertEqual(len(plan.lines()), 1 + dark + light)

    def test_spanning_trees(self):
        # One line exactly if the joined points are a spanning tree of the dark graph.
        for figure in single_figures(20, 5, 7):
            regions = Regions(figure)
            for plan in all_plans(figure):
                joined, parted = joined_points(plan), parted_points(plan)
                for color, points, nodes in (("dark", joined, regions.dark), ("light", parted, regions.light)):
                    pairs = [regions.between(color, point) for point in points]
                    is_tree = len(pairs) == len(nodes) - 1 and parts_by_hand(range(len(nodes)), pairs) == 1
                    self.assertIs(is_tree, len(plan.lines()) == 1)


class TestWhyNot(Case):
    def test_small(self):
        self.assertIsNone(why_not(Plan(SQUARE, {})))
        self.assertIsNone(why_not(plan=Plan(BOTH, {(1, 1): "rd"})))
        self.assertEqual(why_not(Plan(BOTH, {(1, 1): "ru"})), ("light", (0,), ((1, 1),)))

    def test_none_exactly_for_one_line(self):
        for figure in single_figures(40, 5, 7):
            for plan in all_plans(figure):
                found = why_not(plan)
                self.assertIs(found is None, len(plan.lines()) == 1)
                if found is not None:
                    self.check_round(plan, found)

    def test_large_figures(self):
        longest = 0
        for seed, figure in enumerate(single_figures(60) + [checkered(9, 11), checkered(13, 13)]):
            plan = random_plan(figure, seed)
            found = why_not(plan)
            self.assertIs(found is None, len(plan.lines()) == 1)
            if found is not None:
                self.check_round(plan, found)
                longest = max(longest, len(found[1]))
        self.assertGreater(longest, 2)

    def check_round(self, plan, thing):
        self.assertIs(is_round(plan.figure, thing), True)
        self.assertIs(shows_not(plan, thing), True)
        points = joined_points(plan) if thing[0] == "dark" else parted_points(plan)
        self.assertLessEqual(set(thing[2]), set(points))

    def test_shows_not(self):
        for figure in single_figures(30, 5, 6):
            rounds = {**all_rounds(figure, "dark"), **all_rounds(figure, "light")}
            for plan in all_plans(figure):
                joined, parted = set(joined_points(plan)), set(parted_points(plan))
                for thing in list(rounds)[:40]:
                    expected = set(thing[2]) <= (joined if thing[0] == "dark" else parted)
                    self.assertIs(shows_not(plan, thing), expected)
                if len(plan.lines()) == 1:
                    self.assertFalse(any(shows_not(plan, thing) for thing in rounds))

    def test_shows_not_with_other_values(self):
        plan = Plan(BOTH, {(1, 1): "ru"})
        self.assertIs(shows_not(thing=("light", (0,), ((1, 1),)), plan=plan), True)
        wrong = [["light", (0,), ((1, 1),)], ("light", [0], ((1, 1),)), ("light", (0,), ((True, 1),))]
        wrong += [("light", (), ()), ("dark", (0,), ((1, 1),)), ("dark", (0, 1), ((1, 1), (1, 1)))]
        for thing in wrong + any_values():
            self.assertIs(shows_not(plan, thing), False)
        self.assertIs(shows_not(plan.turned([(1, 1)]), ("light", (0,), ((1, 1),))), False)


class TestMended(Case):
    def check(self, plan):
        points = mended(plan)
        lines = len(plan.lines())
        self.assertIs(type(points), tuple)
        self.assertEqual([len(points), len(set(points))], [lines - 1, lines - 1])
        for point in points:
            plan = plan.turned([point])
            lines -= 1
            self.assertEqual(len(plan.lines()), lines)
        self.assertEqual(lines, 1)

    def test_small(self):
        self.assertEqual(mended(Plan(SQUARE, {})), ())
        self.assertEqual(mended(plan=Plan(BOTH, {(1, 1): "rd"})), ())
        self.assertEqual(mended(Plan(BOTH, {(1, 1): "ru"})), ((1, 1),))
        self.assertEqual(len(mended(Plan(CHAIN, {(1, 1): "ru", (2, 1): "rd"}))), 2)

    def test_all_plans(self):
        for figure in single_figures(40, 5, 7) + [WITHIN]:
            for plan in all_plans(figure):
                self.check(plan)

    def test_not_with_fewer(self):
        for figure in single_figures(20, 4, 5):
            for plan in all_plans(figure):
                for many in range(len(plan.lines()) - 1):
                    for points in itertools.combinations(plan.turns(), many):
                        self.assertNotEqual(len(plan.turned(points).lines()), 1)

    def test_large_figures(self):
        for seed, figure in enumerate(single_figures(40) + [checkered(9, 11), checkered(13, 13), checkered(3, 29)]):
            self.check(random_plan(figure, seed))
        figure = checkered(13, 13)
        for word in ("ru", "rd"):
            self.check(Plan(figure, {point: word for point in random_plan(figure, 0).turns()}))

    def test_in_any_other_order_too(self):
        plan = random_plan(checkered(7, 7), 8)
        points = list(mended(plan))
        random.Random(8).shuffle(points)
        self.assertGreater(len(points), 3)
        for at in range(len(points) + 1):
            self.assertEqual(len(plan.turned(points[:at]).lines()), len(points) + 1 - at)


class TestErrors(Case):
    def test_not_a_plan(self):
        for value in any_values():
            if not isinstance(value, Plan):
                for action in (round_numbers, why_not, mended):
                    self.raises_it(InvalidPlan, value, action, value)
                self.raises_it(InvalidPlan, value, shows_not, value, None)

    def test_raises_as_regions(self):
        for seed, figure in enumerate(any_figures(40) + even_figures(40)):
            plan = random_plan(figure, seed)
            for action in (round_numbers, why_not, mended, lambda plan: shows_not(plan, None)):
                try:
                    Regions(figure)
                except NotEven as error:
                    self.raises_like(NotEven, error.value, action, plan)
                except NotOnePiece:
                    self.raises_it(NotOnePiece, figure, action, plan)
                else:
                    action(plan)
        self.raises_like(NotEven, (0, 0), why_not, Plan(read_picture("+-+"), {}))
        self.raises_it(NotOnePiece, empty := Figure(), mended, Plan(empty, {}))
