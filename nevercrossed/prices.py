"""Prices of words: plans of one line with the least price, and rounds that show that a plan is one of these."""

from nevercrossed.errors import InvalidPrices
from nevercrossed.figures import forks_of, is_crossing
from nevercrossed.forests import Forest
from nevercrossed.ground import ground_of
from nevercrossed.plans import check_plan
from nevercrossed.rings import is_ring_among, ring_with
from nevercrossed.spanning import checked_halves, ground_of_plan, plan_connecting, tree_of
from nevercrossed.words import is_integer


def price_of(plan, prices):
    """Return the sum of the prices of the words of a plan at the points of degree 4."""
    check_plan(plan)
    _check_prices(plan.figure, prices)
    return sum([price_ru if plan[point] == "ru" else price_rd for point, (price_ru, price_rd) in prices.items()])


def cheapest(figure, prices):
    """Return a plan of one line with the least price."""
    ground = ground_of(figure)
    excesses = _excesses(ground, figure, prices)
    # A spanning tree of the least excess: the points in the order of their excesses, but those that close a round.
    ascending = sorted([(excess, place) for place, excess in enumerate(excesses)])
    return plan_connecting(figure, ground, "dark", tree_of(ground, "dark", [place for _, place in ascending]))


def cheaper(plan, prices):
    """Return None if a plan of one line has the least price, and otherwise a parted and a joined point to turn."""
    ground, joined, parted, excesses = _asked(plan, prices)
    pairs = ground.pairs["dark"]
    forest = Forest(ground.sizes["dark"], pairs, joined)
    for place in parted:
        one, other = pairs[place]
        _, passed = forest.path(one, other)
        dearer = [step for step in passed if excesses[step] > excesses[place]]
        if dearer:
            return (ground.knots[place], ground.knots[dearer[0]])
    return None


def why_cheapest(plan, prices):
    """Return the rounds that show that a plan of one line has the least price, or None if it has not."""
    ground, joined, parted, excesses = _asked(plan, prices)
    forest = Forest(ground.sizes["dark"], ground.pairs["dark"], joined)
    rings = [ring_with(ground, "dark", forest, place) for place in parted]
    is_least = all([_has_no_dearer(ground, ring, excesses, place) for ring, place in zip(rings, parted)])
    return tuple(rings) if is_least else None


def shows_cheapest(plan, prices, thing):
    """Tell whether any value is the tuple of rounds that shows that a plan of one line has the least price."""
    ground, joined, parted, excesses = _asked(plan, prices)
    if not isinstance(thing, tuple) or len(thing) != len(parted):
        return False
    for ring, place in zip(thing, parted):
        # The joined points alone close no round, so the parted point is on it.
        if not is_ring_among(ground, ring, joined + [place], []) or not _has_no_dearer(ground, ring, excesses, place):
            return False
    return True


def _asked(plan, prices):
    """Return the ground of a plan of one line, its joined and its parted places, and the excesses by place."""
    ground = ground_of_plan(plan)
    joined, parted = checked_halves(ground, plan)
    return ground, joined, parted, _excesses(ground, plan.figure, prices)


def _excesses(ground, figure, prices):
    """Return the list of the prices of joining each point, minus those of parting it."""
    _check_prices(figure, prices)
    excesses = []
    for point, joining in zip(ground.knots, ground.joins):
        price_ru, price_rd = prices[point]
        excesses.append(price_ru - price_rd if joining == "ru" else price_rd - price_ru)
    return excesses


def _has_no_dearer(ground, ring, excesses, place):
    _, _, points = ring
    return all([excesses[ground.places[point]] <= excesses[place] for point in points])


def _check_prices(figure, value):
    many = len([ways for ways in forks_of(figure).values() if len(ways) == 4])
    if not isinstance(value, dict) or len(value) != many:
        raise InvalidPrices(value)
    for point, pair in value.items():
        if not is_crossing(figure, point) or not _is_pair_of_prices(pair):
            raise InvalidPrices(value)


def _is_pair_of_prices(value):
    return isinstance(value, tuple) and len(value) == 2 and is_integer(value[0]) and is_integer(value[1])
