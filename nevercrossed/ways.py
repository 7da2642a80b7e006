"""From plan to plan: points turned one after another, and how many lines there are each time."""

from nevercrossed.errors import InvalidPoints, UnlikeFigures
from nevercrossed.figures import is_crossing
from nevercrossed.forests import Forest
from nevercrossed.grid import PARTNERS, SIDE, STRIDES
from nevercrossed.ground import ground_of
from nevercrossed.plans import OTHER_WORDS, check_plan, partners_of
from nevercrossed.spanning import checked_halves


def way(plan, other):
    """Return the points at which two plans of one line differ, in an order that never gives more than two lines."""
    check_plan(plan)
    check_plan(other)
    ground = ground_of(plan.figure)
    if other.figure != plan.figure:
        raise UnlikeFigures(other)
    joined, _ = checked_halves(ground, plan)
    wanted, _ = checked_halves(ground, other)
    return tuple([ground.knots[place] for place in _exchanged(ground, joined, wanted)])


def line_numbers(plan, points):
    """Return the numbers of lines of a plan, and of those that result if points are turned one after another."""
    check_plan(plan)
    words = _words_at(plan, points)
    partners = partners_of(plan)
    numbers = [len(plan.lines())]
    for x, y in points:
        knot = SIDE * x + y
        around = [_followed(knot, way_out, partners) for way_out in range(4)]
        old = words[(x, y)]
        new = OTHER_WORDS[old]
        numbers.append(numbers[-1] - _many_through(around, old) + _many_through(around, new))
        words[(x, y)] = new
        partners[knot] = PARTNERS["ruld" + new]
    return tuple(numbers)


def _exchanged(ground, joined, wanted):
    """Return the places that lead from a spanning tree of the dark graph to another one: one in, one out, one in ..."""
    pairs = ground.pairs["dark"]
    tree = {place: True for place in joined}
    stays = {place: True for place in wanted}
    exchanged = []
    for place in wanted:
        if place not in tree:
            # The new place closes a round, and not all others on it are wanted: these close none.
            one, other = pairs[place]
            _, passed = Forest(ground.sizes["dark"], pairs, list(tree)).path(one, other)
            leaving = [step for step in passed if step not in stays][0]
            exchanged.extend([place, leaving])
            tree[place] = True
            del tree[leaving]
    return exchanged


def _words_at(plan, points):
    """Return the words of a plan at some points of degree 4. Raise InvalidPoints for any other value."""
    if not isinstance(points, (list, tuple)) or not all([is_crossing(plan.figure, point) for point in points]):
        raise InvalidPoints(points)
    return {point: plan[point] for point in points}


def _followed(knot, way_out, partners):
    """Return the direction in which a line that leaves a point comes back to it first, or -1 if it does not."""
    at = knot
    way_on = way_out
    while way_on >= 0:
        at += STRIDES[way_on]
        if at == knot:
            return (way_on + 2) % 4
        way_on = partners[at][way_on - 2]
    return -1


def _many_through(around, word):
    """Return how many lines go through a point of degree 4, if the ways around lead from direction to direction."""
    paired = PARTNERS["ruld" + word][0]
    # There is one line if a way leads from one pair to the other one.
    is_one = [around[end] not in (0, paired, -1) for end in (0, paired)]
    return 1 if any(is_one) else 2
