"""Rounds among given points, and whether a value is a round.

Points are given by their places among those of degree 4.
"""

from nevercrossed.forests import Forest
from nevercrossed.groups import Groups
from nevercrossed.regions import is_color
from nevercrossed.words import is_integer, is_point


def ring_among(ground, color, places):
    """Return a round of a color whose points are all among some, or None if there is none."""
    size = ground.sizes[color]
    pairs = ground.pairs[color]
    regions = Groups(list(range(size)))
    before = []
    for place in places:
        one, other = pairs[place]
        if not regions.unite(one, other):
            return ring_with(ground, color, Forest(size, pairs, before), place)
        before.append(place)
    return None


def ring_with(ground, color, forest, place):
    """Return the round of a point and of the way in a forest between its two regions."""
    one, other = ground.pairs[color][place]
    numbers, passed = forest.path(one, other)
    return (color, tuple(numbers), tuple([ground.knots[step] for step in passed + [place]]))


def is_ring(ground, thing):
    """Tell whether any value is a round."""
    if not isinstance(thing, tuple) or len(thing) != 3 or not is_color(thing[0]):
        return False
    color, numbers, points = thing
    if not _are_different_integers(numbers) or not _are_different_knots(ground, points):
        return False
    if not numbers:
        return False
    following = numbers[1:] + numbers[:1]
    between = [ground.pairs[color][ground.places[point]] for point in points]
    return between == [(min(one, other), max(one, other)) for one, other in zip(numbers, following)]


def is_ring_among(ground, thing, joined, parted):
    """Tell whether any value is a dark round of some points, or a light round of others: lists or dicts of places."""
    if not is_ring(ground, thing):
        return False
    color, _, points = thing
    allowed = joined if color == "dark" else parted
    return all([ground.places[point] in allowed for point in points])


def _are_different_integers(value):
    return isinstance(value, tuple) and all([is_integer(item) for item in value]) and len(set(value)) == len(value)


def _are_different_knots(ground, value):
    if not isinstance(value, tuple) or not all([is_point(item) and item in ground.places for item in value]):
        return False
    return len(set(value)) == len(value)
