"""Wishes [9], [111] and [112]."""

import itertools
import random

from nevercrossed.errors import InvalidFigure, InvalidPlan, InvalidWishes, NotEven, NotOnePiece
from nevercrossed.figures import Figure
from nevercrossed.plans import Plan
from nevercrossed.regions import Regions
from nevercrossed.rounds import is_round
from nevercrossed.texts import read_picture
from nevercrossed.wishes import fulfils, shows_none, wished
from tests.helper import Case, any_values
from tests.samples import (
    BOTH, CHAIN, RING, SQUARE, WITHIN, all_plans, all_rounds, checkered, crossings_of, one_line_plan, one_lines,
    random_plan, rich_figures, single_figures,
)


def all_wishes(figure):
    """Return all dicts of wishes of a figure."""
    points = crossings_of(figure)
    choices = itertools.product(("ru", "rd", None), repeat=len(points))
    return [{point: word for point, word in zip(points, words) if word} for words in choices]


def some_wishes(figure, seed, part):
    chance = random.Random(seed)
    return {point: chance.choice(("ru", "rd")) for point in crossings_of(figure) if chance.random() < part}


def joining_words(figure):
    regions = Regions(figure)
    return {point: regions.joining(point) for point in regions.crossings()}


def is_wished_round(joining, wishes, thing):
    """Tell whether all points of a round are wished, joined for a dark one and parted for a light one."""
    color, _, points = thing
    return all(point in wishes and (wishes[point] == joining[point]) == (color == "dark") for point in points)


class TestWished(Case):
    def check(self, figure, wishes):
        """Check what is returned, and return whether it is a plan."""
        before = dict(wishes)
        found = wished(figure, wishes)
        self.assertEqual(wishes, before)
        if isinstance(found, Plan):
            self.assertIs(found.figure, figure)
            self.assertEqual(len(found.lines()), 1)
            self.assertEqual({point: found[point] for point in wishes}, wishes)
            self.assertIs(fulfils(found, wishes), True)
            return True
        self.assertIs(type(found), tuple)
        self.assertTrue(is_round(figure, found))
        self.assertTrue(is_wished_round(joining_words(figure), wishes, found))
        self.assertIs(shows_none(figure, wishes, found), True)
        return False

    def test_all_wishes_of_small_figures(self):
        for figure in [SQUARE, BOTH, CHAIN, WITHIN] + single_figures(30, 5, 5) + rich_figures(20, 6):
            plans = one_lines(figure)
            for wishes in all_wishes(figure):
                fitting = [plan for plan in plans if all(plan[point] == word for point, word in wishes.items())]
                self.assertEqual(self.check(figure, wishes), fitting != [])

    def test_no_wishes(self):
        for figure in single_figures(40, 8) + [checkered(13, 13)]:
            self.assertTrue(self.check(figure, {}))
        self.assertEqual(wished(figure=SQUARE, wishes={}), Plan(SQUARE, {}))

    def test_all_points_wished(self):
        for figure in single_figures(40, 7) + [checkered(9, 11)]:
            plan = one_line_plan(figure, 1)
            self.assertEqual(wished(figure, plan.turns()), plan)
            for point in crossings_of(figure):
                self.assertFalse(self.check(figure, plan.turned([point]).turns()))

    def test_figures_of_any_size(self):
        found = []
        large = [checkered(13, 13), checkered(13, 15)] * 4
        for seed, figure in enumerate(single_figures(60, 9) + rich_figures(30, 20) + large):
            for part in (0.1, 0.25, 0.5, 0.9):
                found.append(self.check(figure, some_wishes(figure, seed, part)))
        self.assertGreater(found.count(True), 20)
        self.assertGreater(found.count(False), 20)

    def test_both_colors_of_rounds(self):
        colors = []
        for figure in single_figures(40, 6):
            joined = joining_words(figure)
            for wishes in (joined, {point: "rd" if word == "ru" else "ru" for point, word in joined.items()}):
                if not self.check(figure, wishes):
                    colors.append(wished(figure, wishes)[0])
        self.assertEqual(set(colors), {"dark", "light"})

    def test_what_was_told_stays_as_it_was(self):
        wishes = {(1, 1): "ru"}
        told = wished(BOTH, wishes)
        plan = wished(CHAIN, {(1, 1): "rd"})
        turns = plan.turns()
        wishes[(1, 1)] = "rd"
        wishes[(0, 0)] = "ru"
        self.assertEqual(told, ("light", (0,), ((1, 1),)))
        self.assertEqual(plan.turns(), turns)
        self.assertEqual(wished(BOTH, {(1, 1): "rd"}).turns(), {(1, 1): "rd"})

    def test_the_order_of_the_keys_means_nothing(self):
        for seed, figure in enumerate(rich_figures(30, 20)):
            wishes = some_wishes(figure, seed, 0.6)
            backward = dict(reversed(list(wishes.items())))
            self.assertEqual(wished(figure, wishes), wished(figure, backward))


class TestShowsNone(Case):
    def test_all_rounds_of_small_figures(self):
        for figure in [WITHIN] + single_figures(20, 5, 5) + rich_figures(12, 5):
            rounds = {**all_rounds(figure, "dark"), **all_rounds(figure, "light")}
            joining = joining_words(figure)
            for wishes in all_wishes(figure):
                for thing in rounds:
                    expected = is_wished_round(joining, wishes, thing)
                    self.assertIs(shows_none(figure, wishes, thing), expected)

    def test_rounds_that_are_not_wished(self):
        points = tuple(crossings_of(RING))
        joined = joining_words(RING)
        dark = wished(RING, joined)
        self.assertEqual([dark[0], tuple(sorted(dark[2]))], ["dark", points])
        self.assertIs(shows_none(figure=RING, wishes=joined, thing=dark), True)
        for point in points:
            others = {known: joined[known] for known in points if known != point}
            self.assertIs(shows_none(RING, others, dark), False)
            self.assertIs(shows_none(RING, {**others, point: "rd" if joined[point] == "ru" else "ru"}, dark), False)
        # A round of the other color with the same points is none, nor are rounds that are wished otherwise.
        self.assertIs(shows_none(RING, joined, ("light", dark[1], dark[2])), False)
        self.assertIs(shows_none(RING, joined, ("light", (0, 1), points[:2])), False)
        parted = {point: "rd" if joined[point] == "ru" else "ru" for point in points}
        self.assertIs(shows_none(RING, parted, ("light", (0, 1), points[:2])), True)
        self.assertIs(shows_none(RING, parted, ("light", (1, 0), points[:2])), True)
        self.assertIs(shows_none(RING, parted, dark), False)

    def test_other_values(self):
        thing = ("light", (0,), ((1, 1),))
        self.assertIs(shows_none(BOTH, {(1, 1): "ru"}, thing), True)
        self.assertIs(shows_none(BOTH, {(1, 1): "rd"}, thing), False)
        self.assertIs(shows_none(BOTH, {}, thing), False)
        changed = [list(thing), ("light", [0], ((1, 1),)), ("light", (0,), [(1, 1)]), ("light", (0,), ([1, 1],))]
        changed += [("light", (False,), ((1, 1),)), ("light", (0,), ((True, 1),)), ("light", (), ()), thing + (0,)]
        changed += [("dark", (0,), ((1, 1),)), (None, (0,), ((1, 1),)), ("light", (1,), ((1, 1),))]
        for value in any_values() + changed:
            self.assertIs(shows_none(BOTH, {(1, 1): "ru"}, value), False)


class TestFulfils(Case):
    def test_all_plans_of_small_figures(self):
        for figure in [SQUARE, BOTH, WITHIN] + single_figures(20, 5, 4) + rich_figures(12, 5):
            for plan in all_plans(figure):
                is_one = len(plan.lines()) == 1
                for wishes in all_wishes(figure):
                    fits = all(plan[point] == word for point, word in wishes.items())
                    self.assertIs(fulfils(plan, wishes), is_one and fits)

    def test_by_name(self):
        self.assertIs(fulfils(plan=Plan(BOTH, {(1, 1): "rd"}), wishes={(1, 1): "rd"}), True)
        self.assertIs(fulfils(Plan(BOTH, {(1, 1): "rd"}), {(1, 1): "ru"}), False)
        # The words are as wished, but there are two lines.
        self.assertIs(fulfils(Plan(BOTH, {(1, 1): "ru"}), {(1, 1): "ru"}), False)

    def test_large_figures(self):
        figure = checkered(13, 13)
        plan = one_line_plan(figure, 3)
        self.assertIs(fulfils(plan, plan.turns()), True)
        self.assertIs(fulfils(random_plan(figure, 3), {}), False)


class TestErrors(Case):
    def test_not_wishes(self):
        plan = one_line_plan(RING, 1)
        wrong = [
            {(0, 1): "ru"}, {(0, 2): "rd"}, {(9, 9): "ru"}, {(1, 1): "ur"}, {(1, 1): "r"}, {(1, 1): None}, {(1, 1): ""},
            {(1, 1): ["ru"]}, {(1, 1): ("ru", "rd")}, {(1, 1): True}, {(1, 1): 0}, {(1, 1): {}}, {(1, 1): RING},
            {(1, 1): plan}, {(True, 1): "ru"}, {(1, 1): "ru", (1, 2): "dr"}, {(1, 1): "ru", None: "ru"}, {"11": "ru"},
            {(1, 1, 1): "ru"}, {1: "ru"}, {((1, 1),): "ru"}, [((1, 1), "ru")], (((1, 1), "ru"),), [], (), "ru",
        ]
        for value in wrong + [value for value in any_values() if value != {}]:
            self.raises_it(InvalidWishes, value, wished, RING, value)
            self.raises_it(InvalidWishes, value, shows_none, RING, value, None)
            self.raises_it(InvalidWishes, value, fulfils, plan, value)

    def test_points_of_degree_2(self):
        for figure in (SQUARE, BOTH, WITHIN):
            for point in figure.points():
                if point not in crossings_of(figure):
                    self.raises_it(InvalidWishes, value := {point: "ru"}, wished, figure, value)
                    self.raises_it(InvalidWishes, value, fulfils, one_line_plan(figure, 1), value)

    def test_raises_as_regions_first(self):
        for value in any_values():
            if not isinstance(value, Figure):
                self.raises_it(InvalidFigure, value, wished, value, None)
                self.raises_it(InvalidFigure, value, shows_none, value, None, None)
            if not isinstance(value, Plan):
                self.raises_it(InvalidPlan, value, fulfils, value, None)
        # A point of degree 3 is an odd one, so the figure is refused ahead of the wish.
        odd = read_picture("+-+-+\n|   |\n+-+-+\n  |\n  +")
        for wishes in (None, {}, {(1, 1): "r"}, {(1, 1): "ru"}):
            self.raises_like(NotEven, (1, 0), wished, odd, wishes)
            self.raises_like(NotEven, (1, 0), shows_none, odd, wishes, None)
            self.raises_like(NotEven, (1, 0), fulfils, Plan(odd, {(1, 1): "l"}), wishes)
        for figure in (Figure(), SQUARE | SQUARE.shifted(3, 3)):
            self.raises_it(NotOnePiece, figure, wished, figure, None)
            self.raises_it(NotOnePiece, figure, shows_none, figure, {}, None)
            self.raises_it(NotOnePiece, figure, fulfils, Plan(figure, {}), None)
