"""What [9] says of the whole program: its parts agree with one another, also on figures that are moved or turned."""

import random

from nevercrossed.books import Book
from nevercrossed.cells import dark_cells
from nevercrossed.consoles import Console
from nevercrossed.counting import count, counts_by_lines, nth_plan, number_of
from nevercrossed.drawing import drawn, read_drawn
from nevercrossed.errors import NevercrossedError
from nevercrossed.fewest import best_plan, division_fault, fewest, pieces
from nevercrossed.figures import Figure
from nevercrossed.plans import Plan
from nevercrossed.prices import cheaper, cheapest, price_of, shows_cheapest, why_cheapest
from nevercrossed.regions import Regions
from nevercrossed.rounds import is_round, mended, round_numbers, shows_not, why_not
from nevercrossed.spreads import fixed_words, opposite, spread, spread_bound, spread_paper
from nevercrossed.texts import picture, read_picture, read_walk, walk_text
from nevercrossed.ways import line_numbers, way
from nevercrossed.wishes import fulfils, shows_none, wished
from tests.helper import Case
from tests.samples import (
    BOTH, RING, SQUARE, WITHIN, any_figures, balanced_figures, checkered, crossings_of, even_figures, joined_points,
    one_line_plan, one_lines, parted_points, random_plan, rich_figures, single_figures,
)


def some_figures():
    return [SQUARE, BOTH, RING, WITHIN] + single_figures(20, 6, 10) + rich_figures(20, 10) + balanced_figures(10, 10)


def moved(figure):
    """Return the figure turned, mirrored, and at all sides of the paper."""
    xs = [x for x, _ in figure.points()]
    ys = [y for _, y in figure.points()]
    far = figure.shifted(30 - max(xs), 30 - max(ys))
    near = figure.shifted(-min(xs), -min(ys))
    return [figure.turned(), figure.turned().turned().turned(), figure.mirrored(), far, near, near.turned().mirrored()]


class TestAnyFigures(Case):
    def test_fewest_lines(self):
        for figure in any_figures(80) + even_figures(30):
            parts = pieces(figure)
            many = sum(max(1, len(part.odd_points()) // 2) for part in parts)
            plan = best_plan(figure)
            self.assertEqual([fewest(figure), len(plan.lines())], [many, many])
            self.assertEqual(sum(len(part) for part in parts), len(figure))
            self.assertIsNone(division_fault(figure, plan.lines()))
            self.assertEqual(read_drawn(drawn(plan)), plan)
            self.assertEqual([read_walk(walk_text(line)) for line in plan.lines()], list(plan.lines()))
            self.assertEqual(read_picture(picture(figure)), figure)

    def test_moved_figures_have_the_same_fewest_lines(self):
        for figure in any_figures(40):
            if len(figure):
                for other in moved(figure):
                    self.assertEqual([fewest(other), len(pieces(other))], [fewest(figure), len(pieces(figure))])

    def test_many_lines(self):
        for seed, figure in enumerate(any_figures(40)):
            plan = random_plan(figure, seed)
            self.assertGreaterEqual(len(plan.lines()), fewest(figure))
            self.assertEqual(line_numbers(plan, crossings_of(figure)[:5])[0], len(plan.lines()))


class TestEvenFiguresOfOnePiece(Case):
    def test_rounds_and_lines(self):
        for seed, figure in enumerate(some_figures()):
            for plan in [random_plan(figure, seed + more) for more in range(4)] + [one_line_plan(figure, seed)]:
                many = len(plan.lines())
                self.assertEqual(sum(round_numbers(plan)), many - 1)
                shown = why_not(plan)
                self.assertEqual(shown is None, many == 1)
                # That there is no plan of one line with all these words is shown by the same rounds.
                if shown is not None:
                    self.assertTrue(is_round(figure, shown) and shows_not(plan, shown))
                    self.assertTrue(shows_none(figure, plan.turns(), shown))
                    self.assertTrue(shows_not(plan, wished(figure, plan.turns())))
                self.assertEqual(fulfils(plan, plan.turns()), many == 1)
                points = mended(plan)
                self.assertEqual(line_numbers(plan, points), tuple(range(many, 0, -1)))
                self.assertEqual(line_numbers(plan, points[::-1]), tuple(range(many, 0, -1)))

    def test_plans_of_one_line(self):
        for figure in some_figures():
            plans = one_lines(figure)
            self.assertEqual(len(plans), count(figure))
            self.assertEqual(counts_by_lines(figure)[1], len(plans))
            for index, plan in enumerate(plans):
                self.assertEqual(nth_plan(figure, index), plan)
                self.assertEqual(wished(figure, plan.turns()), plan)
                self.assertEqual(len(joined_points(plan)), len(Regions(figure).dark) - 1)
                self.assertEqual(len(parted_points(plan)), len(Regions(figure).light) - 1)
            middle = plans[len(plans) // 2]
            for plan in plans[:20]:
                self.assertEqual(line_numbers(plan, way(plan, middle))[::2], (1,) * (len(way(plan, middle)) // 2 + 1))

    def test_fixed_words_and_wishes(self):
        for figure in some_figures():
            fixed = fixed_words(figure)
            for point in crossings_of(figure):
                found = [word for word in ("ru", "rd") if isinstance(wished(figure, {point: word}), Plan)]
                self.assertEqual(found, [fixed[point]] if point in fixed else ["ru", "rd"])
            self.assertTrue(isinstance(wished(figure, fixed), Plan))

    def test_prices_of_plans_that_spread(self):
        for seed, figure in enumerate(some_figures()):
            chance = random.Random(seed)
            crossings = crossings_of(figure)
            prices = {point: (chance.randint(0, 9), chance.randint(0, 9)) for point in crossings}
            least = price_of(cheapest(figure, prices), prices)
            for color in ("dark", "light"):
                for plan in spread(figure, 3, color=color):
                    self.assertGreaterEqual(price_of(plan, prices), least)
                    self.assertEqual(cheaper(plan, prices) is None, price_of(plan, prices) == least)
                    self.assertTrue(0 <= number_of(plan) < count(figure))
            # If joining costs what parting costs, each plan is as cheap.
            free = {point: (4, 4) for point in crossings}
            plan = one_line_plan(figure, seed)
            self.assertTrue(shows_cheapest(plan, free, why_cheapest(plan, free)))
            # A wish is a low price.
            wishes = {point: plan[point] for point in crossings[::2]}
            low = {point: (0, 0) for point in crossings}
            low.update({point: (-1, 0) if word == "ru" else (0, -1) for point, word in wishes.items()})
            self.assertTrue(fulfils(cheapest(figure, low), wishes))

    def test_opposites_and_plans_that_spread(self):
        for figure in some_figures():
            many = len(crossings_of(figure))
            reached = []
            for color in ("dark", "light"):
                paper = spread_paper(figure, 2, color=color)
                reached.append(spread_bound(figure, paper, 2, color=color))
            found = opposite(figure)
            self.assertEqual(isinstance(found, Plan), reached == [many, many])
            if isinstance(found, Plan):
                points = way(found, found.turned(crossings_of(figure)))
                self.assertEqual(len(points), many)

    def test_moved_figures(self):
        for figure in some_figures():
            regions = Regions(figure)
            sizes = [len(regions.dark), len(regions.light)]
            counted = counts_by_lines(figure)
            reached = self.all_reached(figure)
            for other in moved(figure):
                found = Regions(other)
                self.assertEqual([len(found.dark), len(found.light)], sizes)
                self.assertEqual([count(other), counts_by_lines(other)], [counted[1], counted])
                self.assertEqual(self.all_reached(other), reached)
                self.assertEqual(len(fixed_words(other)), len(fixed_words(figure)))
                self.assertEqual(isinstance(opposite(other), Plan), isinstance(opposite(figure), Plan))
                self.assertEqual(len(dark_cells(other)), len(dark_cells(figure)))

    def all_reached(self, figure):
        return [
            spread_bound(figure, spread_paper(figure, k, color=color), k, color=color)
            for k in range(1, 7) for color in ("dark", "light")
        ]

    def test_large_figures(self):
        for figure in (checkered(9, 11), checkered(13, 13)):
            one, other = one_line_plan(figure, 1), one_line_plan(figure, 2)
            points = way(one, other)[:60]
            self.assertGreater(len(points), 20)
            self.assertEqual(line_numbers(one, points), (1,) + (2, 1) * (len(points) // 2))
            prices = {point: (0, 1) if other[point] == "ru" else (1, 0) for point in crossings_of(figure)}
            self.assertEqual(cheapest(figure, prices), other)
            self.assertEqual([price_of(other, prices), price_of(one, prices)], [0, len(way(one, other))])
            self.assertEqual(wished(figure, other.turns()), other)


class TestBooksAndConsoles(Case):
    def test_a_book_of_all_walks(self):
        for seed, figure in enumerate(some_figures()):
            book = Book()
            console = Console(book)
            for line in random_plan(figure, seed).lines():
                self.assertEqual(console("put " + walk_text(line).replace(",", " ")), "ok")
            self.assertEqual(book.figure, figure)
            self.assertEqual([console("fewest"), console("count"), console("odd")], ["1", str(count(figure)), "-"])
            last = nth_plan(figure, count(figure) - 1)
            self.assertEqual(console(f"plan {count(figure) - 1}"), walk_text(last.lines()[0]))
            for x, y in crossings_of(figure):
                self.assertEqual(console(f"wish {x} {y} {last[(x, y)]}"), "ok")
            self.assertEqual(book.answer(), last)
            self.assertEqual(console("answer"), "line " + walk_text(last.lines()[0]))
            while book.changes > 0:
                self.assertEqual(console("undo"), "ok")
            self.assertEqual([book.figure, console("show")], [Figure(), "-"])


class TestErrors(Case):
    def test_an_exception_knows_its_value_and_its_name(self):
        for action, argument, value, name in (
            (count, Figure(), Figure(), "NotOnePiece"), (read_drawn, 3, 3, "InvalidPaths"),
            (count, checkered(10, 10), 81, "TooLarge"),
        ):
            with self.assertRaises(NevercrossedError) as context:
                action(argument)
            error = context.exception
            self.assertEqual([error.value, type(error).__name__, error.name], [value, name, name])
