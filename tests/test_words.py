"""The words [1], [6], [11], [12]."""

import copy

from nevercrossed.errors import InvalidDirection, InvalidEdge, InvalidPoint
from nevercrossed.figures import Figure
from nevercrossed.words import (
    beside, direction_between, edge_between, is_direction, is_edge, is_integer, is_point, opposite,
)
from tests.helper import Case, any_values

ON_PAPER = range(31)
STEPS = {"r": (1, 0), "u": (0, 1), "l": (-1, 0), "d": (0, -1)}

INTEGERS = [0, 1, -1, 30, 31, -31, 10 ** 30 - 1, -(10 ** 30 - 1)]
NOT_INTEGERS = [
    None, True, False, "", "0", "1", "-1", [], [0], (), (0,), (0, 0), {}, {0: 0}, Figure(), InvalidPoint(0),
]
NOT_POINTS = [
    (-1, 0), (0, -1), (31, 0), (0, 31), (-1, -1), (31, 31), (30, 31), (31, 30), (10 ** 30 - 1, 0), (0, -(10 ** 30 - 1)),
    (True, 0), (0, True), (False, 0), (0, False), (True, False), (None, 0), (0, None), ("0", 0), (0, "0"), ("r", "u"),
    [0, 0], [1, 2], [(0, 0)], ([0], 0), (0, [0]), ((0, 0), 0), (0, (0, 0)), ({}, 0), (0, {}), (Figure(), 0),
    (0, Figure()), (), (0,), (0, 0, 0), (0, 0, None), ((0, 0),), ((0, 0), (1, 0)),
    None, True, False, 0, 7, -1, "", "r", "00", "0,0", "(0, 0)", {}, {0: 0}, {0: 0, 1: 0}, {(0, 0): 1}, [],
    Figure(), Figure([((0, 0), (1, 0))]), InvalidPoint((0, 0)),
]
NOT_DIRECTIONS = [
    "", "R", "U", "L", "D", "ru", "ul", "ld", "ruld", "rr", " r", "r ", "r\n", "x", "0", "right", "x" * 500,
    None, True, False, 0, 1, -1, 114, [], ["r"], (), ("r",), ("r", "u"), {}, {"r": 1}, Figure(),
    InvalidDirection("r"), (1, 0),
]
NOT_EDGES = [
    # turned round
    ((1, 0), (0, 0)), ((0, 1), (0, 0)), ((30, 30), (29, 30)), ((30, 30), (30, 29)),
    # too long, slanting, without length
    ((0, 0), (2, 0)), ((0, 0), (0, 2)), ((0, 0), (30, 0)), ((0, 0), (1, 1)), ((0, 1), (1, 0)), ((0, 0), (0, 0)),
    ((30, 30), (30, 30)), ((1, 1), (1, 1)), ((0, 30), (1, 0)), ((5, 5), (6, 7)), ((5, 5), (7, 4)), ((5, 5), (6, 4)),
    # partly or wholly beyond the paper
    ((-1, 0), (0, 0)), ((0, -1), (0, 0)), ((30, 0), (31, 0)), ((0, 30), (0, 31)), ((31, 0), (31, 1)),
    ((40, 40), (41, 40)), ((-2, 0), (-1, 0)),
    # True and False are no integers
    ((0, 0), (True, 0)), ((False, 0), (1, 0)), ((0, False), (1, 0)), ((0, 0), (0, True)), ((0, 0), (1, False)),
    ((False, False), (True, False)),
    # lists in the place of tuples, dicts, other lengths
    [(0, 0), (1, 0)], ([0, 0], (1, 0)), ((0, 0), [1, 0]), [[0, 0], [1, 0]], ([0, 0], [1, 0]), {(0, 0): (1, 0)},
    {0: (0, 0), 1: (1, 0)}, {(0, 0): 0, (1, 0): 0}, (), ((0, 0),), ((0, 0), (1, 0), (2, 0)), (0, 0, 1, 0), (0, 0),
    ((0, 0), (1,)), ((0,), (1, 0)), ((0, 0), (1, 0, 0)), ((0, 0, 0), (1, 0)), (((0, 0), (1, 0)),), ((0, 0), None),
    (None, (1, 0)), ((0, 0), "r"), ("00", "10"), ((0, 0), {}), ({}, (1, 0)), ((None, 0), (1, 0)), (("0", 0), (1, 0)),
    # other kinds
    None, True, False, 0, 1, "", "r", "0,0 r", "((0, 0), (1, 0))", [], {}, Figure(), Figure([((0, 0), (1, 0))]),
    (Figure(), Figure()), InvalidEdge(((0, 0), (1, 0))),
]


def points_of_interest():
    """Return points in the middle, at the rims and at the corners."""
    return [(x, y) for x in (0, 1, 15, 29, 30) for y in (0, 1, 15, 29, 30)]


class TestQuestions(Case):
    def test_integers(self):
        for value in INTEGERS:
            self.assertIs(is_integer(value), True, value)

    def test_not_integers(self):
        for value in NOT_INTEGERS:
            self.assertIs(is_integer(value), False, value)

    def test_all_points_of_the_paper(self):
        for x in range(-3, 35):
            for y in range(-3, 35):
                self.assertIs(is_point((x, y)), x in ON_PAPER and y in ON_PAPER, (x, y))

    def test_not_points(self):
        for value in NOT_POINTS:
            self.assertIs(is_point(value), False, value)

    def test_directions(self):
        for value in "ruld":
            self.assertIs(is_direction(value), True, value)

    def test_a_direction_that_was_put_together(self):
        self.assertIs(is_direction("".join(["", "r"])), True)

    def test_not_directions(self):
        for value in NOT_DIRECTIONS:
            self.assertIs(is_direction(value), False, value)

    def test_all_edges_of_the_paper(self):
        for x in range(-1, 32):
            for y in range(-1, 32):
                for dx in (-2, -1, 0, 1, 2):
                    for dy in (-2, -1, 0, 1, 2):
                        value = ((x, y), (x + dx, y + dy))
                        expected = (dx, dy) in ((1, 0), (0, 1)) and all(
                            part in ON_PAPER for point in value for part in point
                        )
                        self.assertIs(is_edge(value), expected, value)

    def test_not_edges(self):
        for value in NOT_EDGES:
            self.assertIs(is_edge(value), False, value)

    def test_values_of_all_kinds(self):
        for value in any_values():
            whole = type(value) is int
            self.assertIs(is_integer(value), whole, value)
            self.assertIs(is_point(value), False, value)
            self.assertIs(is_direction(value), False, value)
            self.assertIs(is_edge(value), type(value) is tuple and value == ((0, 0), (1, 0)), value)

    def test_by_the_names_of_the_parameters(self):
        self.assertIs(is_integer(value=3), True)
        self.assertIs(is_point(value=(3, 3)), True)
        self.assertIs(is_direction(value="d"), True)
        self.assertIs(is_edge(value=((3, 3), (3, 4))), True)

    def test_a_value_is_not_changed(self):
        value = [[0, 0], [1, 0], {"a": [1]}]
        kept = copy.deepcopy(value)
        for question in (is_integer, is_point, is_direction, is_edge):
            question(value)
        self.assertEqual(value, kept)


class TestBeside(Case):
    def test_on_the_whole_paper(self):
        for x in ON_PAPER:
            for y in ON_PAPER:
                for direction, (dx, dy) in STEPS.items():
                    inside = x + dx in ON_PAPER and y + dy in ON_PAPER
                    expected = (x + dx, y + dy) if inside else None
                    self.assertEqual(beside((x, y), direction), expected)

    def test_middle_rim_and_corner(self):
        self.assertEqual([beside((15, 15), way) for way in "ruld"], [(16, 15), (15, 16), (14, 15), (15, 14)])
        self.assertEqual([beside((0, 7), way) for way in "ruld"], [(1, 7), (0, 8), None, (0, 6)])
        self.assertEqual([beside((30, 7), way) for way in "ruld"], [None, (30, 8), (29, 7), (30, 6)])
        self.assertEqual([beside((0, 0), way) for way in "ruld"], [(1, 0), (0, 1), None, None])
        self.assertEqual([beside((30, 30), way) for way in "ruld"], [None, None, (29, 30), (30, 29)])

    def test_wrong_point(self):
        for value in NOT_POINTS:
            self.raises_it(InvalidPoint, value, beside, value, "r")

    def test_wrong_direction(self):
        for value in NOT_DIRECTIONS:
            self.raises_it(InvalidDirection, value, beside, (0, 0), value)

    def test_the_point_comes_first(self):
        for value in NOT_POINTS:
            self.raises_it(InvalidPoint, value, beside, value, "x")
            self.raises_it(InvalidPoint, value, beside, value, [])

    def test_by_the_names_of_the_parameters(self):
        self.assertEqual(beside(direction="u", point=(2, 3)), (2, 4))


class TestDirectionBetween(Case):
    def test_each_neighbor(self):
        for point in points_of_interest():
            for direction, (dx, dy) in STEPS.items():
                other = (point[0] + dx, point[1] + dy)
                if other[0] in ON_PAPER and other[1] in ON_PAPER:
                    self.assertEqual(direction_between(point, other), direction)
                else:
                    self.raises_it(InvalidPoint, other, direction_between, point, other)

    def test_no_neighbors(self):
        for point in points_of_interest():
            for other in points_of_interest():
                if abs(point[0] - other[0]) + abs(point[1] - other[1]) != 1:
                    self.raises_like(InvalidEdge, (point, other), direction_between, point, other)

    def test_no_way_round_the_paper(self):
        self.raises_like(InvalidEdge, ((30, 4), (0, 4)), direction_between, (30, 4), (0, 4))
        self.raises_like(InvalidEdge, ((4, 0), (4, 30)), direction_between, (4, 0), (4, 30))
        self.raises_like(InvalidEdge, ((0, 30), (1, 0)), direction_between, (0, 30), (1, 0))

    def test_wrong_points(self):
        for value in NOT_POINTS:
            self.raises_it(InvalidPoint, value, direction_between, value, (0, 0))
            self.raises_it(InvalidPoint, value, direction_between, (0, 0), value)

    def test_the_first_wrong_point_comes_first(self):
        for value in NOT_POINTS:
            self.raises_it(InvalidPoint, value, direction_between, value, [None])
            first = [None]
            self.raises_it(InvalidPoint, first, direction_between, first, value)

    def test_by_the_names_of_the_parameters(self):
        self.assertEqual(direction_between(other=(2, 3), point=(2, 4)), "d")


class TestEdgeBetween(Case):
    def test_each_neighbor(self):
        for point in points_of_interest():
            for dx, dy in STEPS.values():
                other = (point[0] + dx, point[1] + dy)
                if other[0] in ON_PAPER and other[1] in ON_PAPER:
                    edge = edge_between(point, other)
                    self.assertIs(type(edge), tuple)
                    self.assertEqual(edge, tuple(sorted([point, other])))
                    self.assertIs(is_edge(edge), True)
                else:
                    self.raises_it(InvalidPoint, other, edge_between, point, other)

    def test_no_neighbors(self):
        for point in points_of_interest():
            for other in points_of_interest():
                if abs(point[0] - other[0]) + abs(point[1] - other[1]) != 1:
                    self.raises_like(InvalidEdge, (point, other), edge_between, point, other)

    def test_wrong_points(self):
        for value in NOT_POINTS:
            self.raises_it(InvalidPoint, value, edge_between, value, (0, 0))
            self.raises_it(InvalidPoint, value, edge_between, (0, 0), value)

    def test_the_first_wrong_point_comes_first(self):
        for value in NOT_POINTS:
            self.raises_it(InvalidPoint, value, edge_between, value, [None])
            first = [None]
            self.raises_it(InvalidPoint, first, edge_between, first, value)

    def test_by_the_names_of_the_parameters(self):
        self.assertEqual(edge_between(other=(2, 3), point=(2, 4)), ((2, 3), (2, 4)))


class TestOpposite(Case):
    def test_each_direction(self):
        self.assertEqual([opposite(way) for way in "ruld"], ["l", "d", "r", "u"])

    def test_twice_and_there_and_back(self):
        for way in "ruld":
            self.assertEqual(opposite(opposite(way)), way)
            self.assertEqual(beside(beside((4, 4), way), opposite(way)), (4, 4))

    def test_wrong_direction(self):
        for value in NOT_DIRECTIONS:
            self.raises_it(InvalidDirection, value, opposite, value)

    def test_by_the_name_of_the_parameter(self):
        self.assertEqual(opposite(direction="d"), "u")


class TestWrongValuesOfAllKinds(Case):
    def test_points(self):
        for value in any_values():
            self.raises_it(InvalidPoint, value, beside, value, "r")
            self.raises_it(InvalidPoint, value, direction_between, value, (0, 0))
            self.raises_it(InvalidPoint, value, direction_between, (0, 0), value)
            self.raises_it(InvalidPoint, value, edge_between, value, (0, 0))
            self.raises_it(InvalidPoint, value, edge_between, (0, 0), value)

    def test_directions(self):
        for value in any_values():
            self.raises_it(InvalidDirection, value, beside, (0, 0), value)
            self.raises_it(InvalidDirection, value, opposite, value)

    def test_a_list_that_is_changed_later(self):
        value = [0, 0]
        found = self.caught(InvalidPoint, beside, value, "r")
        value.append(1)
        self.assertIs(found.value, value)
        self.assertEqual(found.value, [0, 0, 1])
