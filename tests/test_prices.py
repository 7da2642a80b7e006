"""Prices [9] and [141] to [143]."""

import random
import time

from nevercrossed.errors import (
    InvalidFigure, InvalidPlan, InvalidPrices, NotEven, NotOneLine, NotOnePiece,
)
from nevercrossed.figures import Figure
from nevercrossed.plans import Plan
from nevercrossed.prices import cheaper, cheapest, price_of, shows_cheapest, why_cheapest
from nevercrossed.regions import Regions
from nevercrossed.rounds import is_round
from nevercrossed.texts import read_picture
from tests.helper import Case, any_values
from tests.samples import (
    BOTH, CHAIN, RING, SQUARE, WITHIN, all_plans, all_rounds, any_figures, checkered, crossings_of, joined_points,
    one_line_plan, one_lines, parted_points, random_plan, rich_figures, single_figures,
)

RING_PRICES = {(1, 1): (0, 1), (1, 2): (5, 0), (2, 1): (3, 0), (2, 2): (0, 2)}


def some_prices(figure, seed, most=3):
    chance = random.Random(seed)
    return {point: (chance.randint(-most, most), chance.randint(-most, most)) for point in crossings_of(figure)}


def all_kinds_of_prices(figure, seed):
    """Return prices that are mostly equal, small, below zero, and large."""
    large = 10 ** 30 - 1
    return [
        {point: (0, 0) for point in crossings_of(figure)}, {point: (7, 7) for point in crossings_of(figure)},
        some_prices(figure, seed, 1), some_prices(figure, seed, 4), some_prices(figure, seed, large),
        {point: (-one, -other) for point, (one, other) in some_prices(figure, seed, large).items()},
    ]


def price_by_hand(plan, prices):
    return sum(prices[point][("ru", "rd").index(plan[point])] for point in crossings_of(plan.figure))


def excess(figure, prices, point):
    price_ru, price_rd = prices[point]
    return price_ru - price_rd if Regions(figure).joining(point) == "ru" else price_rd - price_ru


class TestPriceOf(Case):
    def test_any_figures(self):
        for seed, figure in enumerate(any_figures(40) + single_figures(20)):
            plan = random_plan(figure, seed)
            for prices in all_kinds_of_prices(figure, seed):
                self.assertEqual(price_of(plan, prices), price_by_hand(plan, prices))
        self.assertEqual(price_of(plan=Plan(SQUARE, {}), prices={}), 0)
        self.assertEqual(price_of(Plan(BOTH, {(1, 1): "ru"}), {(1, 1): (-5, 3)}), -5)
        self.assertEqual(price_of(Plan(BOTH, {(1, 1): "rd"}), {(1, 1): (-5, 3)}), 3)

    def test_odd_figures_and_several_pieces(self):
        house = read_picture("+-+-+\n| | |\n+-+-+\n  | |\n  + +")
        plan = random_plan(house, 1)
        self.assertEqual(price_of(plan, {(1, 1): (2, 2)}), 2)
        self.assertEqual(price_of(Plan(Figure(), {}), {}), 0)
        two = random_plan(BOTH | BOTH.shifted(5, 5), 2)
        self.assertEqual(price_of(two, {(1, 1): (1, 1), (6, 6): (2, 2)}), 3)
        # Points of degree 3 have no price.
        self.raises_it(InvalidPrices, value := {(1, 1): (2, 2), (1, 2): (0, 0)}, price_of, plan, value)


class TestCheapest(Case):
    def check(self, figure, prices):
        before = dict(prices)
        plan = cheapest(figure, prices)
        self.assertEqual(prices, before)
        self.assertIs(type(plan), Plan)
        self.assertIs(plan.figure, figure)
        self.assertEqual(len(plan.lines()), 1)
        self.assertIsNone(cheaper(plan, prices))
        rounds = why_cheapest(plan, prices)
        self.assertIs(shows_cheapest(plan, prices, rounds), True)
        return plan

    def test_all_plans_of_small_figures(self):
        for seed, figure in enumerate([SQUARE, BOTH, CHAIN, WITHIN] + single_figures(20, 5, 8) + rich_figures()):
            for prices in all_kinds_of_prices(figure, seed):
                least = min(price_by_hand(plan, prices) for plan in one_lines(figure))
                self.assertEqual(price_of(self.check(figure, prices), prices), least)

    def test_large_figures_in_no_time(self):
        cases = []
        for figure in (checkered(9, 11), checkered(13, 13), checkered(13, 15), checkered(4, 30)):
            cases += [(figure, prices) for prices in all_kinds_of_prices(figure, 4)]
        started = time.process_time()
        for figure, prices in cases:
            plan = cheapest(figure, prices)
            why_cheapest(plan, prices)
            cheaper(plan, prices)
        # Each of the three takes less than a thousandth of a second.
        self.assertLess(time.process_time() - started, 24 * 0.03)
        for figure, prices in cases:
            self.check(figure, prices)

    def test_no_points_of_degree_4(self):
        plan = cheapest(figure=SQUARE, prices={})
        self.assertEqual(plan, Plan(SQUARE, {}))
        self.assertEqual(why_cheapest(plan, {}), ())
        self.assertIs(shows_cheapest(plan, {}, ()), True)

    def test_equal_prices_of_one_word(self):
        # Each point that is joined costs as much, so each plan of one line is a cheapest one.
        for figure in rich_figures():
            regions = Regions(figure)
            prices = {point: (5, 1) if regions.joining(point) == "ru" else (1, 5) for point in crossings_of(figure)}
            for plan in one_lines(figure):
                self.assertIsNone(cheaper(plan, prices))


class TestCheaper(Case):
    def test_all_plans_of_small_figures(self):
        for seed, figure in enumerate([SQUARE, BOTH, WITHIN] + single_figures(20, 5, 7) + rich_figures()):
            plans = one_lines(figure)
            for prices in all_kinds_of_prices(figure, seed + 50):
                least = min(price_by_hand(plan, prices) for plan in plans)
                for plan in plans:
                    self.check(plan, prices, price_by_hand(plan, prices) == least)

    def check(self, plan, prices, is_cheapest):
        found, why = cheaper(plan, prices), why_cheapest(plan, prices)
        # Just one of both is None.
        self.assertEqual([found is None, why is None], [is_cheapest, not is_cheapest])
        if is_cheapest:
            self.check_rounds(plan, prices, why)
            return
        self.assertIs(type(found), tuple)
        parted, joined = found
        self.assertIn(parted, parted_points(plan))
        self.assertIn(joined, joined_points(plan))
        turned = plan.turned([parted, joined])
        self.assertEqual(len(turned.lines()), 1)
        self.assertLess(price_of(turned, prices), price_of(plan, prices))

    def check_rounds(self, plan, prices, rounds):
        figure = plan.figure
        self.assertIs(type(rounds), tuple)
        parted, joined = parted_points(plan), joined_points(plan)
        self.assertEqual(len(rounds), len(parted))
        for point, thing in zip(parted, rounds):
            self.assertTrue(is_round(figure, thing))
            self.assertEqual(thing[0], "dark")
            self.assertIn(point, thing[2])
            others = [other for other in thing[2] if other != point]
            self.assertLessEqual(set(others), set(joined))
            limit = excess(figure, prices, point)
            self.assertTrue(all(excess(figure, prices, other) <= limit for other in others))
        self.assertIs(shows_cheapest(plan, prices, rounds), True)

    def test_step_by_step_to_the_cheapest(self):
        for seed, figure in enumerate(rich_figures(30, 20) + [checkered(9, 11), checkered(13, 13)]):
            prices = some_prices(figure, seed, 50)
            plan = one_line_plan(figure, seed)
            least = price_of(cheapest(figure, prices), prices)
            step = cheaper(plan=plan, prices=prices)
            while step is not None:
                self.assertIsNone(why_cheapest(plan, prices))
                price = price_of(plan, prices)
                plan = plan.turned(step)
                self.assertLess(price_of(plan, prices), price)
                step = cheaper(plan, prices)
            self.assertEqual(price_of(plan, prices), least)
            self.check_rounds(plan, prices, why_cheapest(plan=plan, prices=prices))


class TestShowsCheapest(Case):
    def ways_of_writing(self, thing):
        """Return a round written from each of its regions on and in both senses."""
        color, numbers, points = thing
        found = []
        for at in range(len(numbers)):
            turned, passed = numbers[at:] + numbers[:at], points[at:] + points[:at]
            found.append((color, turned, passed))
            found.append((color, turned[:1] + turned[:0:-1], passed[::-1]))
        return found

    def test_all_ways_of_writing(self):
        many = 0
        for seed, figure in enumerate(rich_figures(40, 12)):
            prices = some_prices(figure, seed)
            plan = cheapest(figure, prices)
            rounds = why_cheapest(plan, prices)
            for at, thing in enumerate(rounds):
                for other in self.ways_of_writing(thing):
                    self.assertTrue(is_round(figure, other))
                    self.assertIs(shows_cheapest(plan, prices, rounds[:at] + (other,) + rounds[at + 1:]), True)
                    many += 1
        self.assertGreater(many, 200)

    def test_left_out_twice_and_exchanged(self):
        checked = 0
        for seed, figure in enumerate(rich_figures(40, 12) + [WITHIN]):
            prices = some_prices(figure, seed)
            plan = cheapest(figure, prices)
            rounds = why_cheapest(plan, prices)
            for at, thing in enumerate(rounds):
                wrong = [rounds[:at] + rounds[at + 1:], rounds[:at] + (thing,) + rounds[at:], rounds + (thing,)]
                wrong += [rounds[:at] + (None,) + rounds[at + 1:], rounds[:at] + (list(thing),) + rounds[at + 1:]]
                color, numbers, points = thing
                for other in (
                    ("light", numbers, points), (color, list(numbers), points), (color, numbers, list(points)),
                    (color, numbers), (color, numbers, points, 0), (color, numbers[:-1], points[:-1]),
                ):
                    wrong.append(rounds[:at] + (other,) + rounds[at + 1:])
                # That of another point, and two that have changed their places.
                for there, other in enumerate(rounds):
                    if there != at:
                        exchanged = list(rounds)
                        exchanged[at], exchanged[there] = other, thing
                        wrong += [rounds[:at] + (other,) + rounds[at + 1:], tuple(exchanged)]
                for value in wrong + [list(rounds), rounds[::-1] if len(rounds) > 1 else rounds + rounds]:
                    self.assertIs(shows_cheapest(plan, prices, value), False)
                    checked += 1
        self.assertGreater(checked, 300)

    def test_rounds_with_other_parted_points_or_dearer_ones(self):
        for prices in (RING_PRICES, {point: (1, 2) for point in crossings_of(RING)}):
            for plan in one_lines(RING):
                thing = ("dark", (0, 1, 3, 2), ((1, 1), (2, 1), (2, 2), (1, 2)))
                self.assertTrue(is_round(RING, thing))
                is_cheapest = price_of(plan, prices) == min(price_of(other, prices) for other in one_lines(RING))
                self.assertIs(shows_cheapest(plan, prices, (thing,)), is_cheapest)
        # A round of the light graph with the parted point is none.
        plan = one_lines(RING)[0]
        free = {point: (0, 0) for point in crossings_of(RING)}
        (parted,) = parted_points(plan)
        for point in joined_points(plan):
            self.assertTrue(is_round(RING, thing := ("light", (0, 1), (parted, point))))
            self.assertIs(shows_cheapest(plan, free, (thing,)), False)
        # Nor is a dark one of two parted points.
        board = checkered(5, 5)
        free = {point: (0, 0) for point in crossings_of(board)}
        checked = 0
        for plan in [one_line_plan(board, seed) for seed in range(5)]:
            rounds, parted = why_cheapest(plan, free), parted_points(plan)
            for thing in all_rounds(board, "dark"):
                for at in [at for at, point in enumerate(parted) if point in thing[2]]:
                    is_one = len(set(parted) & set(thing[2])) == 1
                    self.assertIs(shows_cheapest(plan, free, rounds[:at] + (thing,) + rounds[at + 1:]), is_one)
                    checked += not is_one
        self.assertGreater(checked, 50)

    def test_other_values(self):
        prices = RING_PRICES
        plan = cheapest(RING, prices)
        (thing,) = why_cheapest(plan, prices)
        self.assertIs(shows_cheapest(plan, prices, (thing,)), True)
        for value in any_values() + [thing, [thing], (thing, thing), ((thing,),), {thing: True}]:
            self.assertIs(shows_cheapest(plan, prices, value), False)
        for value in any_values() + [(thing,), list(thing), [thing], thing[:2], thing + (0,)]:
            self.assertIs(shows_cheapest(plan, prices, (value,)), False)
        # Without a parted point there is just the empty tuple.
        chain = Plan(BOTH, {(1, 1): "rd"})
        for value in any_values():
            self.assertIs(shows_cheapest(plan=chain, prices={(1, 1): (9, 0)}, thing=value), value == ())

    def test_a_plan_that_is_not_the_cheapest(self):
        for seed, figure in enumerate(rich_figures()):
            prices = some_prices(figure, seed)
            plans = one_lines(figure)
            least = min(price_of(plan, prices) for plan in plans)
            free = {point: (0, 0) for point in prices}
            for plan in plans:
                # The only rounds that there could be are those that would do if all was free.
                rounds = why_cheapest(plan, free)
                self.assertIs(shows_cheapest(plan, free, rounds), True)
                self.assertIs(shows_cheapest(plan, prices, rounds), price_of(plan, prices) == least)


class TestErrors(Case):
    def test_not_prices(self):
        plan = one_lines(RING)[0]
        wrong = [{**RING_PRICES, (1, 1): pair} for pair in (
            None, 0, (), (0,), (0, 0, 0), [0, 1], (True, 0), (0, False), ("0", 0), (None, 1), ((0, 1),), {0: 0, 1: 1},
        )]
        wrong += [{**RING_PRICES, point: (0, 0)} for point in ((0, 1), (9, 9), None, "11", 3, (1, 1, 1), ((1, 1),))]
        wrong += [{point: (0, 0) for point in crossings_of(RING)[:3]}, {}, list(RING_PRICES.items()), [], RING, plan]
        fewer = {point: (0, 0) for point in crossings_of(RING)[:3]}
        wrong += [{**fewer, point: (0, 0)} for point in ((0, 1), (9, 9), None, (True, 1))]
        for value in wrong + any_values():
            self.raises_it(InvalidPrices, value, price_of, plan, value)
            self.raises_it(InvalidPrices, value, price_of, plan.turned([(1, 1)]), value)
            self.raises_it(InvalidPrices, value, cheapest, RING, value)
            self.raises_it(InvalidPrices, value, cheaper, plan, value)
            self.raises_it(InvalidPrices, value, why_cheapest, plan, value)
            self.raises_it(InvalidPrices, value, shows_cheapest, plan, value, None)

    def test_no_prices_where_there_are_no_points(self):
        for value in any_values():
            if value != {}:
                self.raises_it(InvalidPrices, value, cheapest, SQUARE, value)
                self.raises_it(InvalidPrices, value, price_of, Plan(SQUARE, {}), value)
                self.raises_it(InvalidPrices, value, cheaper, Plan(SQUARE, {}), value)

    def test_not_plans(self):
        for value in any_values():
            if not isinstance(value, Plan):
                self.raises_it(InvalidPlan, value, price_of, value, None)
                self.raises_it(InvalidPlan, value, cheaper, value, None)
                self.raises_it(InvalidPlan, value, why_cheapest, value, None)
                self.raises_it(InvalidPlan, value, shows_cheapest, value, None, None)
            if not isinstance(value, Figure):
                self.raises_it(InvalidFigure, value, cheapest, value, None)

    def test_raises_as_regions_first(self):
        odd = Plan(read_picture("+-+-+"), {})
        self.raises_like(NotEven, (0, 0), cheapest, odd.figure, None)
        self.raises_like(NotEven, (0, 0), cheaper, odd, None)
        self.raises_like(NotEven, (0, 0), why_cheapest, odd, None)
        self.raises_like(NotEven, (0, 0), shows_cheapest, odd, None, None)
        for figure in (Figure(), SQUARE | SQUARE.shifted(3, 3), BOTH | BOTH.shifted(5, 5)):
            plan = random_plan(figure, 1)
            self.raises_it(NotOnePiece, figure, cheapest, figure, None)
            self.raises_it(NotOnePiece, figure, cheaper, plan, None)
            self.raises_it(NotOnePiece, figure, why_cheapest, plan, None)
            self.raises_it(NotOnePiece, figure, shows_cheapest, plan, None, None)
            self.raises_it(InvalidPrices, None, price_of, plan, None)

    def test_not_one_line(self):
        for figure in rich_figures(15, 6):
            for plan in all_plans(figure):
                if len(plan.lines()) > 1:
                    for prices in (None, {}, {point: (0, 0) for point in crossings_of(figure)}):
                        self.raises_it(NotOneLine, plan, cheaper, plan, prices)
                        self.raises_it(NotOneLine, plan, why_cheapest, plan, prices)
                        self.raises_it(NotOneLine, plan, shows_cheapest, plan, prices, None)
