"""The plans [2] and [41] to [45]."""

import collections.abc
import random

from nevercrossed.cells import border
from nevercrossed.errors import InvalidDirection, InvalidFigure, InvalidPoint, InvalidPoints, InvalidTurns
from nevercrossed.figures import Figure
from nevercrossed.plans import Plan
from nevercrossed.texts import read_picture
from tests.helper import Case, any_values
from tests.samples import (
    BOTH, RING, SQUARE, all_plans, any_figures, crossings_of, degree_points, direction_of, edges_of, even_figures,
    large_figures, lines_by_hand, random_plan, stepped,
)

# A point of degree 1, one of degree 2, one of degree 3 and one of degree 4.
MIXED = read_picture("+ +\n| |\n+-+-+\n  |\n  +-+")
# Points of degree 3 alone, at the corners of the paper too.
LADDER = read_picture("+-+\n| |\n+-+\n| |\n+-+\n| |\n+-+")
OTHER = {"ru": "rd", "rd": "ru"}


def sample_plans():
    """Return plans of all kinds of figures."""
    return [random_plan(figure, seed) for seed, figure in enumerate(any_figures() + even_figures())]


class TestMaking(Case):
    def test_without_words(self):
        for figure in (Figure(), SQUARE, Figure([((0, 0), (1, 0))]), read_picture("+-+\n  |\n  +")):
            plan = Plan(figure, {})
            self.assertIs(plan.figure, figure)
            self.assertEqual([len(plan), plan.turns()], [0, {}])
            self.assertIn("figure", vars(plan))

    def test_all_words(self):
        self.assertEqual(crossings_of(MIXED), [(1, 1)])
        for word in ("ru", "rd"):
            plan = Plan(MIXED, {(1, 1): word})
            self.assertEqual([plan[(1, 1)], plan.turns()], [word, {(1, 1): word}])
        for figure in (LADDER, LADDER.turned(), LADDER.mirrored().shifted(0, 24)):
            points = degree_points(figure, 3)
            self.assertEqual(len(points), 4)
            for plan in all_plans(figure):
                self.assertEqual(sorted(plan.turns()), points)
            self.assertEqual(len(all_plans(figure)), 81)

    def test_by_name_and_in_any_order(self):
        words = {(1, 1): "ru", (2, 1): "rd", (1, 2): "rd", (2, 2): "ru"}
        plan = Plan(turns=words, figure=RING)
        self.assertEqual(plan.turns(), words)
        again = Plan(RING, {point: words[point] for point in sorted(words)})
        self.assertEqual(plan, again)

    def test_not_a_figure(self):
        for value in any_values():
            if not isinstance(value, Figure):
                self.raises_it(InvalidFigure, value, Plan, value, {})
                self.raises_it(InvalidFigure, value, Plan, value, None)

    def test_not_a_dict(self):
        for figure in (BOTH, LADDER, MIXED):
            for value in any_values() + [[((1, 1), "ru")], (((1, 1), "ru"),), "ru"]:
                self.raises_it(InvalidTurns, value, Plan, figure, value)
        for figure in (Figure(), SQUARE):
            for value in any_values():
                if value != {}:
                    self.raises_it(InvalidTurns, value, Plan, figure, value)

    def test_missing_and_additional_points(self):
        words = {(1, 1): "ru", (2, 1): "rd", (1, 2): "rd", (2, 2): "ru"}
        for point in words:
            value = {other: word for other, word in words.items() if other != point}
            self.raises_it(InvalidTurns, value, Plan, RING, value)
            # Another point in its place: of degree 2, beyond the figure, beyond the paper, no point.
            for other in ((1, 0), (9, 9), (31, 0), (1, 1, 1), "r", None, 0, (None, 1), ((1, 1),)):
                value[other] = "ru"
                self.raises_it(InvalidTurns, value, Plan, RING, value)
                del value[other]
            value = {**words, (1, 0): "ru"}
            self.raises_it(InvalidTurns, value, Plan, RING, value)

    def test_true_is_no_coordinate(self):
        for value in ({(True, 1): "ru"}, {(1, True): "ru"}, {(True, True): "rd"}):
            self.raises_it(InvalidTurns, value, Plan, BOTH, value)

    def test_wrong_words(self):
        wrong = ["", "r", "u", "l", "d", "ur", "dr", "ul", "ld", "rl", "ud", "RU", "ru ", "ruld", None, True, 0, ["ru"]]
        wrong += [("ru",), ("r", "u"), {"ru": 1}, {}, Figure(), random_plan(BOTH, 1), 1]
        for word in wrong:
            value = {(1, 1): word}
            self.raises_it(InvalidTurns, value, Plan, BOTH, value)

    def test_wrong_words_at_points_of_degree_3(self):
        right = {point: LADDER.directions(point)[0] for point in degree_points(LADDER, 3)}
        self.assertEqual(len(Plan(LADDER, right)), 4)
        for point in right:
            missing = next(way for way in "ruld" if way not in LADDER.directions(point))
            ways = LADDER.directions(point)
            for word in (missing, "", "ru", "rd", ways, "R", "r ", None, True, 1, ["r"], ("r",), {}):
                value = {**right, point: word}
                self.raises_it(InvalidTurns, value, Plan, LADDER, value)

    def test_the_figure_comes_first(self):
        self.raises_it(InvalidFigure, value := [], Plan, value, [])
        self.raises_it(InvalidTurns, value := [], Plan, SQUARE, value)

    def test_the_dict_is_changed_later(self):
        words = {(1, 1): "ru"}
        plan = Plan(BOTH, words)
        words[(1, 1)] = "rd"
        words[(5, 5)] = "ru"
        self.assertEqual([plan[(1, 1)], plan.turns(), len(plan)], ["ru", {(1, 1): "ru"}, 1])
        self.assertEqual(len(plan.lines()), 2)
        del words[(1, 1)]
        self.assertIn((1, 1), plan)

    def test_the_dict_stays_as_it_was(self):
        words = {(2, 2): "ru", (1, 1): "ru", (2, 1): "rd", (1, 2): "rd"}
        Plan(RING, words).turned([(1, 1)])
        self.assertEqual(list(words.items()), [((2, 2), "ru"), ((1, 1), "ru"), ((2, 1), "rd"), ((1, 2), "rd")])


class TestAsking(Case):
    def test_words(self):
        for plan in sample_plans():
            forks = [point for point in plan.figure.points() if len(plan.figure.directions(point)) > 2]
            self.assertEqual(len(plan), len(forks))
            self.assertEqual(sorted(plan.turns()), forks)
            for point in plan.figure.points():
                self.assertIs(point in plan, point in forks)
                if point in forks:
                    self.assertEqual(plan[point], plan.turns()[point])
                else:
                    self.raises_it(InvalidPoint, point, lambda: plan[point])

    def test_the_dict_that_is_returned_is_new(self):
        plan = Plan(BOTH, {(1, 1): "ru"})
        words = plan.turns()
        words[(1, 1)] = "rd"
        words[(0, 0)] = "r"
        self.assertIsNot(plan.turns(), plan.turns())
        self.assertEqual([plan.turns(), plan[(1, 1)], len(plan)], [{(1, 1): "ru"}, "ru", 1])

    def test_other_values(self):
        for plan in (Plan(Figure(), {}), Plan(BOTH, {(1, 1): "ru"}), random_plan(LADDER, 1)):
            for value in any_values() + [(31, 31), (0, 0), (True, 1), (1, True), [1, 1], (1, 1, 1), ((1, 1),), 0, -1]:
                self.assertIs(value in plan, False)
                self.raises_it(InvalidPoint, value, lambda: plan[value])

    def test_equal(self):
        plans = all_plans(RING) + all_plans(BOTH) + all_plans(LADDER) + all_plans(SQUARE) + [Plan(Figure(), {})]
        for at, plan in enumerate(plans):
            for place, other in enumerate(plans):
                self.assertIs(plan == other, at == place)
                self.assertIs(plan != other, at != place)
            self.assertIs(plan == Plan(Figure(plan.figure.edges), plan.turns()), True)

    def test_the_same_words_in_another_figure(self):
        longer = BOTH | border([(2, 2)]) - border([(1, 1)]) | Figure([((5, 5), (6, 5))])
        one, two = Plan(BOTH, {(1, 1): "ru"}), Plan(BOTH | Figure([((5, 5), (6, 5))]), {(1, 1): "ru"})
        self.assertEqual(one.turns(), two.turns())
        self.assertIs(one == two, False)
        self.assertIs(longer == BOTH, False)

    def test_not_equal_to_other_values(self):
        for plan in (Plan(Figure(), {}), Plan(BOTH, {(1, 1): "ru"})):
            for value in [value for value in any_values() if not isinstance(value, Plan)] + [plan.turns(), plan.figure]:
                self.assertIs(plan == value, False)
                self.assertIs(plan != value, True)
                self.assertIs(value == plan, False)

    def test_iterating(self):
        for plan in (Plan(Figure(), {}), Plan(BOTH, {(1, 1): "ru"}), random_plan(LADDER, 2)):
            self.assertRaises(TypeError, iter, plan)
            self.assertRaises(TypeError, list, plan)
            self.assertRaises(TypeError, sorted, plan)
            with self.assertRaises(TypeError):
                for _ in plan:
                    self.fail("a plan was iterated over")
        self.assertNotIsInstance(plan, collections.abc.Mapping)


class TestPartner(Case):
    def test_degree_4(self):
        for word, pairs in (("ru", {"r": "u", "u": "r", "l": "d", "d": "l"}), ("rd", dict(zip("rdlu", "drul")))):
            plan = Plan(BOTH, {(1, 1): word})
            self.assertEqual({way: plan.partner((1, 1), way) for way in "ruld"}, pairs)

    def test_degree_3_2_and_1(self):
        at = (7, 7)
        cross = {way: tuple(sorted((at, stepped(at, way)))) for way in "ruld"}
        for missing in "ruld":
            rest = [way for way in "ruld" if way != missing]
            figure = Figure([cross[way] for way in rest])
            for word in rest:
                one, other = [way for way in rest if way != word]
                plan = Plan(figure, {at: word})
                self.assertEqual([plan.partner(at, way) for way in (one, other, word)], [other, one, None])
            for one in rest:
                for other in rest:
                    if one < other:
                        plan = Plan(Figure([cross[one], cross[other]]), {})
                        self.assertEqual([plan.partner(at, one), plan.partner(at, other)], [other, one])
            self.assertIsNone(Plan(Figure([cross[missing]]), {}).partner(at, missing))

    def test_each_is_the_partner_of_its_partner(self):
        for plan in sample_plans():
            for point in plan.figure.points():
                ways = plan.figure.directions(point)
                partners = {way: plan.partner(point, way) for way in ways}
                self.assertEqual(list(partners.values()).count(None), len(ways) % 2)
                for way, other in partners.items():
                    if other is None:
                        self.assertEqual(plan.turns().get(point, ways), way)
                    else:
                        self.assertEqual(partners[other], way)
                        self.assertNotEqual(other, way)

    def test_wrong_points_and_directions(self):
        plan = Plan(BOTH, {(1, 1): "ru"})
        for value in any_values() + [(5, 5), (2, 0), (31, 0), (True, 1), (0, False), [1, 1]]:
            self.raises_it(InvalidPoint, value, plan.partner, value, "r")
            self.raises_it(InvalidPoint, value, plan.partner, value, None)
        for value in any_values() + ["", "ru", "R", ["r"], ("r",)]:
            self.raises_it(InvalidDirection, value, plan.partner, (1, 1), value)
            self.raises_it(InvalidDirection, value, plan.partner, (0, 0), value)
        for value in ("l", "d", "rd"):
            self.raises_it(InvalidDirection, value, plan.partner, (0, 0), value)
        self.assertEqual(plan.partner(direction="r", point=(0, 0)), "u")


class TestTurning(Case):
    def test_turned(self):
        chance = random.Random(44)
        for plan in sample_plans():
            words = plan.turns()
            points = [point for point in crossings_of(plan.figure) if chance.random() < 0.5]
            chance.shuffle(points)
            expected = {point: OTHER[word] if point in points else word for point, word in words.items()}
            for value in (points, tuple(points)):
                result = plan.turned(value)
                self.assertIs(type(result), Plan)
                self.assertIs(result.figure, plan.figure)
                self.assertEqual(result.turns(), expected)
                self.assertEqual(result.turned(value), plan)
            self.assertEqual(plan.turns(), words)
            self.assertEqual(plan.lines(), lines_by_hand(plan.figure, words))

    def test_no_points(self):
        for plan in (Plan(Figure(), {}), Plan(BOTH, {(1, 1): "ru"}), random_plan(LADDER, 3)):
            self.assertEqual([plan.turned([]), plan.turned(points=())], [plan, plan])

    def test_wrong_points(self):
        plan = Plan(RING, {point: "ru" for point in crossings_of(RING)})
        wrong = [[(1, 1), (1, 1)], [(1, 1), (2, 2), (1, 1)], [(1, 0)], [(1, 1), (0, 1)], [(9, 9)], [(1, 1), None]]
        wrong += [[(True, 1)], [(1, 1), (2, True)], [[1, 1]], (1, 1), [(31, 1)], {(1, 1): "ru"}, "ru", [(1, 1), []]]
        for value in wrong + [item for item in any_values() if item not in ([], ())]:
            self.raises_it(InvalidPoints, value, plan.turned, value)
        self.assertEqual(plan, Plan(RING, {point: "ru" for point in crossings_of(RING)}))

    def test_points_of_degree_3_are_not_turned(self):
        plan = random_plan(LADDER, 4)
        for point in degree_points(LADDER, 3):
            self.raises_it(InvalidPoints, value := [point], plan.turned, value)

    def test_ended(self):
        for plan in sample_plans():
            words = plan.turns()
            for point in degree_points(plan.figure, 3):
                for way in plan.figure.directions(point):
                    result = plan.ended(point, way)
                    self.assertIs(type(result), Plan)
                    self.assertEqual(result.turns(), {**words, point: way})
                    self.assertIsNone(result.partner(point, way))
            self.assertEqual(plan.turns(), words)

    def test_ended_with_wrong_values(self):
        plan = random_plan(LADDER, 5)
        for value in any_values() + [(0, 0), (1, 3), (9, 9), (True, 1), (0, True), [0, 1], (31, 0)]:
            self.raises_it(InvalidPoint, value, plan.ended, value, "r")
            self.raises_it(InvalidPoint, value, plan.ended, value, None)
        self.raises_it(InvalidPoint, value := (1, 1), Plan(BOTH, {(1, 1): "ru"}).ended, value, "r")
        for value in any_values() + ["l", "", "ru", "ud", "rud", ["r"], ("r",)]:
            self.raises_it(InvalidDirection, value, plan.ended, (0, 1), value)
        self.assertEqual(plan.ended(direction="d", point=(0, 1))[(0, 1)], "d")


class TestLines(Case):
    def test_no_edges(self):
        self.assertEqual(Plan(Figure(), {}).lines(), ())

    def test_closed_lines(self):
        self.assertEqual(Plan(SQUARE, {}).lines(), (((0, 0), (0, 1), (1, 1), (1, 0), (0, 0)),))
        self.assertEqual(len(Plan(BOTH, {(1, 1): "ru"}).lines()), 2)
        once = Plan(BOTH, {(1, 1): "rd"}).lines()
        around = ((0, 0), (0, 1), (1, 1), (1, 2), (2, 2), (2, 1), (1, 1), (1, 0), (0, 0))
        self.assertEqual(once, (around,))

    def test_lines_with_ends(self):
        bent = read_picture("+-+\n  |\n  +")
        self.assertEqual(Plan(bent, {}).lines(), (((0, 1), (1, 1), (1, 0)),))
        for way, lines in (
            ("l", (((0, 0), (1, 0)), ((1, 1), (1, 0), (2, 0)))),
            ("u", (((0, 0), (1, 0), (2, 0)), ((1, 0), (1, 1)))),
            ("r", (((0, 0), (1, 0), (1, 1)), ((1, 0), (2, 0)))),
        ):
            self.assertEqual(Plan(read_picture("  +\n  |\n+-+-+"), {(1, 0): way}).lines(), lines)

    def test_a_closed_line_and_one_with_ends_that_begin_at_one_point(self):
        # Both touch (0, 1), where the tail ends or goes on round the square.
        figure = read_picture("+-+\n| |\n+-+\n|\n+")
        self.assertEqual(Plan(figure, {(0, 1): "d"}).lines(), (
            ((0, 0), (0, 1)), ((0, 1), (0, 2), (1, 2), (1, 1), (0, 1)),
        ))
        self.assertEqual(Plan(figure, {(0, 1): "u"}).lines(), (((0, 0), (0, 1), (1, 1), (1, 2), (0, 2), (0, 1)),))
        upwards = read_picture("+\n|\n+-+\n| |\n+-+")
        self.assertEqual(Plan(upwards, {(0, 1): "u"}).lines(), (
            ((0, 0), (0, 1), (1, 1), (1, 0), (0, 0)), ((0, 1), (0, 2)),
        ))
        aside = read_picture("+-+\n| |\n+-+-+")
        closed = ((0, 0), (0, 1), (1, 1), (1, 0), (0, 0))
        self.assertEqual(Plan(aside, {(1, 0): "r"}).lines(), (closed, ((1, 0), (2, 0))))

    def test_as_the_document_defines_them(self):
        for plan in sample_plans():
            lines = plan.lines()
            self.assertEqual(lines, lines_by_hand(plan.figure, plan.turns()))
            self.assertEqual(sorted(edge for line in lines for edge in edges_of(line)), list(plan.figure.edges))
            self.assertIs(type(lines), tuple)
            self.assertEqual([type(line) for line in lines], [tuple] * len(lines))
            self.assertEqual(plan.lines(), lines)

    def test_all_plans_of_small_figures(self):
        for figure in (RING, LADDER, MIXED, read_picture("+-+-+\n| | |\n+-+-+\n| | |\n+-+-+")):
            for plan in all_plans(figure):
                self.assertEqual(plan.lines(), lines_by_hand(figure, plan.turns()))

    def test_neighbors_on_a_line_are_partners(self):
        for plan in sample_plans()[:40]:
            for line in plan.lines():
                around = line + line[1:2] if line[0] == line[-1] else line
                for before, point, after in zip(around, around[1:], around[2:]):
                    self.assertEqual(plan.partner(point, direction_of(point, before)), direction_of(point, after))

    def test_large_figures(self):
        for seed, figure in enumerate(large_figures()):
            plan = random_plan(figure, seed)
            self.assertEqual(plan.lines(), lines_by_hand(figure, plan.turns()))

    def test_lines_of_a_turned_plan(self):
        plan = Plan(BOTH, {(1, 1): "rd"})
        self.assertEqual(len(plan.lines()), 1)
        self.assertEqual(len(plan.turned([(1, 1)]).lines()), 2)
        self.assertEqual(len(plan.lines()), 1)
