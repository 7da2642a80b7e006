"""Rounds: simple closed ways from region to region, and what they say of a plan."""

from nevercrossed.errors import InvalidPlan
from nevercrossed.ground import ground_of
from nevercrossed.groups import Groups
from nevercrossed.plans import Plan
from nevercrossed.regions import is_color
from nevercrossed.words import is_integer, is_point


def is_round(figure, thing):
    """Tell whether any value is a round of a figure."""
    return _is_ring(ground_of(figure), thing)


def round_numbers(plan):
    """Return the number of independent rounds of joined points, and that of parted points."""
    ground = ground_of_plan(plan)
    joined, parted = joined_and_parted(ground, plan)
    return (len(_closing(ground, "dark", joined)), len(_closing(ground, "light", parted)))


def why_not(plan):
    """Return None if a plan is one line, and otherwise a dark round of joined points or a light one of parted ones."""
    ground = ground_of_plan(plan)
    joined, parted = joined_and_parted(ground, plan)
    return _ring_among(ground, "dark", joined) or _ring_among(ground, "light", parted)


def shows_not(plan, thing):
    """Tell whether any value is a dark round of joined points or a light round of parted points of a plan."""
    ground = ground_of_plan(plan)
    if not _is_ring(ground, thing):
        return False
    color, _, points = thing
    joined, parted = joined_and_parted(ground, plan)
    allowed = joined if color == "dark" else parted
    return all([ground.places[point] in allowed for point in points])


def mended(plan):
    """Return the points, one less than there are lines, of which each one that is turned makes one line less."""
    ground = ground_of_plan(plan)
    joined, parted = joined_and_parted(ground, plan)
    regions = _lone_regions(ground, "dark")
    # Without the joined points that close a round, and with the parted ones that connect two parts, the joined points
    # are a spanning tree.
    wrong = [place for place in joined if not _connects(ground, "dark", regions, place)]
    wrong.extend([place for place in parted if _connects(ground, "dark", regions, place)])
    return tuple([ground.knots[place] for place in wrong])


def ground_of_plan(plan):
    """Return the ground of the figure of a plan, any value. Raise InvalidPlan, or what Regions raises."""
    if not isinstance(plan, Plan):
        raise InvalidPlan(plan)
    return ground_of(plan.figure)


def joined_and_parted(ground, plan):
    """Return the places of the points that a plan joins, and of those that it parts: two lists, ascending."""
    words = plan.turns()
    joined = []
    parted = []
    for place, point in enumerate(ground.knots):
        if words[point] == ground.joins[place]:
            joined.append(place)
        else:
            parted.append(place)
    return joined, parted


def is_one_line(ground, joined):
    """Tell whether a plan with these joined points is one line: they are a spanning tree of the dark graph."""
    return len(joined) == ground.sizes["dark"] - 1 and not _closing(ground, "dark", joined)


def _closing(ground, color, places):
    """Return those of some points that close a round with the ones before them: as many as are independent rounds."""
    regions = _lone_regions(ground, color)
    return [place for place in places if not _connects(ground, color, regions, place)]


def _lone_regions(ground, color):
    return Groups(list(range(ground.sizes[color])))


def _connects(ground, color, regions, place):
    """Connect the regions of a color at a point, and tell whether they were not connected before."""
    one, other = ground.pairs[color][place]
    return regions.unite(one, other)


def _ring_among(ground, color, places):
    """Return a round of a color whose points are all among some, or None if there is none."""
    regions = _lone_regions(ground, color)
    ways = {}
    for place in places:
        one, other = ground.pairs[color][place]
        if not regions.unite(one, other):
            numbers, passed = _path(ways, one, other)
            return (color, tuple(numbers), tuple([ground.knots[way] for way in passed + [place]]))
        ways.setdefault(one, []).append((other, place))
        ways.setdefault(other, []).append((one, place))
    return None


def _path(ways, goal, start):
    """Return the regions from one to another one that is connected with it, and the places between them."""
    before = {goal: None}
    waiting = [goal]
    while start not in before:
        at = waiting.pop()
        for near, place in ways[at]:
            if near not in before:
                before[near] = (at, place)
                waiting.append(near)
    numbers = [start]
    passed = []
    while numbers[-1] != goal:
        at, place = before[numbers[-1]]
        numbers.append(at)
        passed.append(place)
    return numbers, passed


def _is_ring(ground, thing):
    if not isinstance(thing, tuple) or len(thing) != 3 or not is_color(thing[0]):
        return False
    color, numbers, points = thing
    if not _are_different_integers(numbers) or not _are_different_knots(ground, points):
        return False
    if not numbers:
        return False
    following = numbers[1:] + numbers[:1]
    between = [ground.pairs[color][ground.places[point]] for point in points]
    return between == [(min(one, other), max(one, other)) for one, other in zip(numbers, following)]


def _are_different_integers(value):
    return isinstance(value, tuple) and all([is_integer(item) for item in value]) and len(set(value)) == len(value)


def _are_different_knots(ground, value):
    if not isinstance(value, tuple) or not all([is_point(item) and item in ground.places for item in value]):
        return False
    return len(set(value)) == len(value)
