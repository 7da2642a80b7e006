"""Wishes: plans of one line with given words at some points, or a round that shows that there is none."""

from nevercrossed.errors import InvalidWishes
from nevercrossed.figures import is_crossing
from nevercrossed.ground import ground_of
from nevercrossed.rings import is_ring_among, ring_among
from nevercrossed.spanning import ground_of_plan, is_one_line, joined_and_parted, plan_connecting, tree_of


def wished(figure, wishes):
    """Return a plan of one line with the wished words, or a round of wished points that shows that there is none."""
    ground = ground_of(figure)
    joined, parted = _wished_halves(figure, ground, wishes)
    ring = ring_among(ground, "dark", joined) or ring_among(ground, "light", parted)
    if ring is not None:
        return ring
    # The parted points close no light round, so all others together connect all dark regions.
    free = [place for place, point in enumerate(ground.knots) if point not in wishes]
    return plan_connecting(figure, ground, "dark", tree_of(ground, "dark", joined + free))


def shows_none(figure, wishes, thing):
    """Tell whether any value is a dark round of points wished joined, or a light round of points wished parted."""
    ground = ground_of(figure)
    joined, parted = _wished_halves(figure, ground, wishes)
    return is_ring_among(ground, thing, joined, parted)


def fulfils(plan, wishes):
    """Tell whether a plan has one line and the wished words."""
    ground = ground_of_plan(plan)
    _check_wishes(plan.figure, wishes)
    joined, _ = joined_and_parted(ground, plan)
    return is_one_line(ground, joined) and all([plan[point] == word for point, word in wishes.items()])


def _wished_halves(figure, ground, wishes):
    """Return the places of the points wished joined, and of those wished parted: two lists, ascending."""
    _check_wishes(figure, wishes)
    joined = []
    parted = []
    for place in sorted([ground.places[point] for point in wishes]):
        is_joined = wishes[ground.knots[place]] == ground.joins[place]
        halves = joined if is_joined else parted
        halves.append(place)
    return joined, parted


def _check_wishes(figure, value):
    if not isinstance(value, dict):
        raise InvalidWishes(value)
    for point, word in value.items():
        if not is_crossing(figure, point) or word not in ("ru", "rd"):
            raise InvalidWishes(value)
