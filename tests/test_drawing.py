"""Plans drawn exactly [113] and [114]."""

import random

from nevercrossed.cells import border
from nevercrossed.drawing import drawn, read_drawn
from nevercrossed.errors import InvalidPaths
from nevercrossed.figures import Figure
from nevercrossed.plans import Plan
from nevercrossed.texts import read_picture
from tests.helper import Case, any_values
from tests.samples import (
    ALL_CELLS, ALL_EDGES, BOTH, CHAIN, RING, SQUARE, WITHIN, all_plans, any_figures, checkered, even_figures,
    large_figures, random_plan, some_figure,
)

SQUARE_PATH = ((0, 2), (0, 6), (2, 8), (6, 8), (8, 6), (8, 2), (6, 0), (2, 0), (0, 2))


def path_by_hand(walk):
    """Return the path of a line, by the words of the document."""
    path = []
    for at, (point, other) in enumerate(zip(walk, walk[1:])):
        # Straight on, a point is in the middle between the ones before and behind it.
        if at > 0 and tuple(a + b for a, b in zip(walk[at - 1], other)) == (2 * point[0], 2 * point[1]):
            path.append((8 * point[0], 8 * point[1]))
        path.append(tuple(8 * a + 2 * (b - a) for a, b in zip(point, other)))
        path.append(tuple(8 * b + 2 * (a - b) for a, b in zip(point, other)))
    return tuple(path + path[:1] if walk[0] == walk[-1] else path)


def side(one, other, place):
    turn = (other[0] - one[0]) * (place[1] - one[1]) - (other[1] - one[1]) * (place[0] - one[0])
    return (turn > 0) - (turn < 0)


def have_common_place(segment, other):
    """Tell whether two straight lines from place to place have a place in common."""
    (a, b), (c, d) = segment, other
    sides = [side(a, b, c), side(a, b, d), side(c, d, a), side(c, d, b)]
    if sides == [0, 0, 0, 0]:
        return all(
            max(min(a[i], b[i]), min(c[i], d[i])) <= min(max(a[i], b[i]), max(c[i], d[i])) for i in (0, 1)
        )
    return sides[0] * sides[1] <= 0 and sides[2] * sides[3] <= 0


def squares_of(segment):
    """Return the squares of eight by eight eighths that a segment may touch."""
    (x, y), (far_x, far_y) = segment
    columns = range(min(x, far_x) // 8 - 1, max(x, far_x) // 8 + 1)
    rows = range(min(y, far_y) // 8 - 1, max(y, far_y) // 8 + 1)
    return [(column, row) for column in columns for row in rows]


def meeting(paths):
    """Return two segments of the paths that meet, other than successive ones of one path at their common end."""
    segments = []
    for number, path in enumerate(paths):
        for at, segment in enumerate(zip(path, path[1:])):
            segments.append((number, at, len(path) - 1 if path[0] == path[-1] else 0, segment))
    near = {}
    for item in segments:
        for square in squares_of(item[3]):
            near.setdefault(square, []).append(item)
    for items in near.values():
        for number, at, around, segment in items:
            for other_number, other_at, _, other in items:
                if number == other_number and at >= other_at:
                    continue
                if number == other_number and (other_at == at + 1 or (around and (other_at + 1) % around == at)):
                    # They have their common end, and nothing more: the second one does not go back over the first.
                    if side(segment[0], segment[1], other[1 if other_at == at + 1 else 0]) == 0:
                        ends = (segment, other) if other_at == at + 1 else (other, segment)
                        before = tuple(b - a for a, b in zip(*ends[0]))
                        after = tuple(b - a for a, b in zip(*ends[1]))
                        if before[0] * after[0] + before[1] * after[1] <= 0:
                            return segment, other
                elif have_common_place(segment, other):
                    return segment, other
    return None


class TestDrawn(Case):
    def check(self, plan):
        paths = drawn(plan)
        self.assertEqual(paths, tuple(path_by_hand(walk) for walk in plan.lines()))
        self.assertIs(type(paths), tuple)
        for path, walk in zip(paths, plan.lines()):
            self.assertIs(type(path), tuple)
            self.assertEqual({type(position) for position in path}, {tuple})
            self.assertEqual(path[0] == path[-1], walk[0] == walk[-1])
        # No place twice, but for the end of a closed path.
        places = [place for path in paths for place in (path[:-1] if path[0] == path[-1] else path)]
        self.assertEqual(len(set(places)), len(places))
        self.assertEqual(read_drawn(paths), plan)
        self.assertEqual(read_drawn(list(paths)), plan)

    def test_small(self):
        self.assertEqual(drawn(Plan(Figure(), {})), ())
        self.assertEqual(drawn(plan=Plan(read_picture("+-+"), {})), (((2, 0), (6, 0)),))
        self.assertEqual(drawn(Plan(read_picture("+\n|\n+"), {})), (((0, 2), (0, 6)),))
        self.assertEqual(drawn(Plan(read_picture("+-+-+"), {})), (((2, 0), (6, 0), (8, 0), (10, 0), (14, 0)),))
        self.assertEqual(drawn(Plan(SQUARE, {})), (SQUARE_PATH,))
        far = Plan(Figure([((29, 30), (30, 30)), ((30, 29), (30, 30))]), {})
        self.assertEqual(drawn(far), (((234, 240), (238, 240), (240, 238), (240, 234)),))

    def test_at_a_point_of_degree_3(self):
        figure = read_picture("+-+-+\n  |\n  +")
        for word, expected in (
            ("d", (((2, 8), (6, 8), (8, 8), (10, 8), (14, 8)), ((8, 2), (8, 6)))),
            ("l", (((2, 8), (6, 8)), ((8, 2), (8, 6), (10, 8), (14, 8)))),
            ("r", (((2, 8), (6, 8), (8, 6), (8, 2)), ((10, 8), (14, 8)))),
        ):
            self.assertEqual(drawn(Plan(figure, {(1, 1): word})), expected)

    def test_at_a_point_of_degree_4(self):
        self.assertEqual(drawn(Plan(BOTH, {(1, 1): "ru"}))[0][2:5], ((2, 8), (6, 8), (8, 6)))
        self.assertEqual(drawn(Plan(BOTH, {(1, 1): "rd"}))[0][2:6], ((2, 8), (6, 8), (8, 10), (8, 14)))

    def test_all_plans_of_small_figures(self):
        for figure in (BOTH, CHAIN, RING, WITHIN, read_picture("+-+-+\n| | |\n+-+-+\n  | |\n  + +")):
            for plan in all_plans(figure):
                self.check(plan)
                self.assertIsNone(meeting(drawn(plan)))

    def test_any_figures(self):
        for seed, figure in enumerate(any_figures(150) + even_figures(60) + large_figures()):
            self.check(random_plan(figure, seed))

    def test_no_two_paths_meet(self):
        figures = any_figures(60) + even_figures(40) + large_figures() + [checkered(13, 13), border(ALL_CELLS)]
        for seed, figure in enumerate(figures):
            self.assertIsNone(meeting(drawn(random_plan(figure, seed))))
        # What is asked here tells paths that meet.
        self.assertIsNotNone(meeting([((0, 0), (4, 4)), ((0, 4), (4, 0))]))
        self.assertIsNotNone(meeting([((0, 0), (4, 0)), ((4, 0), (4, 4))]))
        self.assertIsNotNone(meeting([((0, 0), (8, 0), (4, 0))]))
        self.assertIsNotNone(meeting([((0, 0), (8, 0), (8, 8), (4, 0))]))


class TestReadDrawn(Case):
    def refused(self, value):
        self.raises_it(InvalidPaths, value, read_drawn, value)

    def plans(self):
        figures = [BOTH, CHAIN, RING, WITHIN, read_picture("+-+-+\n| | |\n+-+-+\n  | |\n  + +")]
        figures += [some_figure(4, 22, seed) for seed in range(12)]
        return [random_plan(figure, seed) for seed, figure in enumerate(figures)]

    def test_the_kinds(self):
        plan = read_drawn(paths=[SQUARE_PATH])
        self.assertIs(type(plan), Plan)
        self.assertEqual(plan, Plan(SQUARE, {}))
        self.assertEqual(read_drawn([]), Plan(Figure(), {}))
        self.assertEqual(read_drawn(()), Plan(Figure(), {}))

    def test_an_argument_stays_as_it_was(self):
        paths = list(drawn(random_plan(RING, 1)))
        copy = list(paths)
        plan = read_drawn(paths)
        self.assertEqual(paths, copy)
        paths.clear()
        self.assertEqual(drawn(plan), tuple(copy))

    def test_other_orders_and_ways_of_writing(self):
        for plan in self.plans():
            paths = list(drawn(plan))
            if len(paths) > 1:
                self.refused(paths[1:] + paths[:1])
                self.refused(tuple(paths[::-1]))
            for at, path in enumerate(paths):
                others = [path[::-1]]
                if path[0] == path[-1]:
                    others += [path[step:-1] + path[:step + 1] for step in range(1, len(path) - 1)]
                for other in others:
                    self.refused(paths[:at] + [other] + paths[at + 1:])

    def test_twice_left_out_cut_and_joined(self):
        for plan in self.plans():
            paths = list(drawn(plan))
            for at, path in enumerate(paths):
                self.refused(paths[:at] + [path, path] + paths[at + 1:])
                self.refused(paths + [path])
                for cut in range(1, len(path)):
                    self.refused(paths[:at] + [path[:cut], path[cut:]] + paths[at + 1:])
                    self.refused(paths[:at] + [path[:cut], path[cut - 1:]] + paths[at + 1:])
                if at > 0:
                    self.refused(paths[:at - 1] + [paths[at - 1] + path] + paths[at + 1:])
                self.refused(paths[:at] + [()] + paths[at:])

    def test_positions_in_out_or_otherwise(self):
        for plan in self.plans():
            paths = list(drawn(plan))
            for at, path in enumerate(paths):
                for place, (x, y) in enumerate(path):
                    # A path with a position out, twice, or put otherwise.
                    others = [path[:place] + path[place + 1:], path[:place + 1] + path[place:]]
                    for position in ((x + 1, y), (x, y - 1), (x + 8, y), (y + 2, x + 4), (-x, y), (x, y, 0), (x,)):
                        others.append(path[:place] + (position,) + path[place + 1:])
                    others.append(path[:place] + ((x // 8 * 8, y // 8 * 8),) + path[place:])
                    for other in others:
                        changed = paths[:at] + [other] + paths[at + 1:]
                        if changed != paths:
                            self.refused(changed)

    def test_straight_on_and_corners(self):
        self.refused([((2, 0), (6, 0), (10, 0), (14, 0))])
        self.refused([((2, 8), (6, 8), (8, 8), (8, 6), (8, 2))])
        self.refused([((0, 0), (2, 0), (6, 0))])
        self.refused([((2, 0), (6, 0), (8, 0))])
        self.refused([((2, 0),)])
        self.refused([((2, 0), (6, 0), (2, 0))])
        self.refused([((2, 0), (6, 0), (6, 0), (2, 0))])
        # Straight through a point of degree 4, as no plan goes.
        self.refused([((2, 8), (6, 8), (8, 8), (10, 8), (14, 8)), ((8, 2), (8, 6), (8, 8), (8, 10), (8, 14))])
        self.refused([((2, 8), (6, 8)), ((8, 2), (8, 6)), ((8, 10), (8, 14)), ((10, 8), (14, 8))])
        self.refused([((2, 0), (6, 0)), ((10, 0), (14, 0))])

    def test_lists_and_truths(self):
        paths = drawn(Plan(SQUARE, {}))
        self.refused([list(paths[0])])
        self.refused([tuple([list(position) for position in paths[0]])])
        self.refused([paths[0][:1] + ([0, 6],) + paths[0][2:]])
        self.refused([((False, 2),) + SQUARE_PATH[1:]])
        self.refused([SQUARE_PATH[:-1] + ((False, 2),)])
        self.refused([((2, False), (6, 0))])
        # True is equal to 1, but no position has a 1 or is accepted with one.
        self.refused([((2, True), (6, True))])
        self.refused(paths[0])
        self.refused({path: True for path in paths})

    def test_far_off(self):
        for far in (31, 10 ** 30 - 1, -1, -31):
            self.refused([((8 * far + 2, 0), (8 * far + 6, 0))])
            self.refused([((0, 8 * far + 2), (0, 8 * far + 6))])
        for path in (((242, 0), (246, 0)), ((238, 0), (234, 0)), ((-6, 0), (-2, 0)), ((0, 242), (0, 246)), ((0, 242),)):
            self.refused([path])
        self.assertEqual(read_drawn([((234, 240), (238, 240))]).figure.edges, (((29, 30), (30, 30)),))
        # All paths of a plan, moved beyond the paper or over its rim.
        for plan in self.plans():
            for dx, dy in ((31, 0), (0, 31), (-31, 0), (0, -31), (0, 29), (0, -1), (29, 0), (-1, 0), (10 ** 28, 0)):
                moved = [tuple([(x + 8 * dx, y + 8 * dy) for x, y in path]) for path in drawn(plan)]
                points = [(x + dx, y + dy) for x, y in plan.figure.points()]
                if min(min(point) for point in points) < 0 or max(max(point) for point in points) > 30:
                    self.refused(moved)
                else:
                    self.assertEqual(drawn(read_drawn(moved)), tuple(moved))

    def test_400_edges_and_more(self):
        edges = random.Random(113).sample(ALL_EDGES, 450)
        paths = sorted(path_by_hand(edge) for edge in edges)
        plan = random_plan(Figure(edges[:400]), 2)
        self.assertEqual(read_drawn(drawn(plan)), plan)
        self.refused(paths)
        alone = [((x, y), (x + 1, y)) for y in range(31) for x in range(0, 30, 2)]
        for many in (400, 401):
            paths = [path_by_hand(edge) for edge in sorted(alone[:many])]
            if many == 400:
                self.assertEqual(read_drawn(paths).figure, Figure(alone[:400]))
            else:
                self.refused(paths)

    def test_other_values(self):
        for value in any_values():
            if value not in ([], ()):
                self.refused(value)
            self.refused([value])
            self.refused((SQUARE_PATH, value))
            self.refused([(value,)])
            self.refused([SQUARE_PATH[:-1] + (value,)])
            self.refused([SQUARE_PATH[:-1] + ((value, 2),)] if value != 0 or value is False else [value])
