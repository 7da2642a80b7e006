"""Rounds: simple closed ways from region to region, and what they say of a plan."""

from nevercrossed.ground import ground_of
from nevercrossed.rings import is_ring, is_ring_among, ring_among
from nevercrossed.spanning import ground_of_plan, joined_and_parted, tree_of


def is_round(figure, thing):
    """Tell whether any value is a round of a figure."""
    return is_ring(ground_of(figure), thing)


def round_numbers(plan):
    """Return the number of independent rounds of joined points, and that of parted points."""
    ground = ground_of_plan(plan)
    joined, parted = joined_and_parted(ground, plan)
    return (_independent(ground, "dark", joined), _independent(ground, "light", parted))


def why_not(plan):
    """Return None if a plan is one line, and otherwise a dark round of joined points or a light one of parted ones."""
    ground = ground_of_plan(plan)
    joined, parted = joined_and_parted(ground, plan)
    return ring_among(ground, "dark", joined) or ring_among(ground, "light", parted)


def shows_not(plan, thing):
    """Tell whether any value is a dark round of joined points or a light round of parted points of a plan."""
    ground = ground_of_plan(plan)
    joined, parted = joined_and_parted(ground, plan)
    return is_ring_among(ground, thing, joined, parted)


def mended(plan):
    """Return the points, one less than there are lines, of which each one that is turned makes one line less."""
    ground = ground_of_plan(plan)
    joined, parted = joined_and_parted(ground, plan)
    in_tree = {place: True for place in tree_of(ground, "dark", joined + parted)}
    # Without the joined points that close a round, and with the parted ones that connect two parts, the joined points
    # are a spanning tree.
    wrong = [place for place in joined if place not in in_tree]
    wrong.extend([place for place in parted if place in in_tree])
    return tuple([ground.knots[place] for place in wrong])


def _independent(ground, color, places):
    # As many as close a round with the ones before them.
    return len(places) - len(tree_of(ground, color, places))
