"""Plans as parts of graphs: a plan is one line if its joined points are a spanning tree of the dark graph.

Then its parted points are a spanning tree of the light graph. Points are given by their places among those of degree 4.
"""

from nevercrossed.errors import NotOneLine
from nevercrossed.ground import ground_of
from nevercrossed.groups import Groups
from nevercrossed.plans import OTHER_WORDS, Plan, check_plan


def ground_of_plan(plan):
    """Return the ground of the figure of a plan, any value. Raise InvalidPlan, or what Regions raises."""
    check_plan(plan)
    return ground_of(plan.figure)


def joined_and_parted(ground, plan):
    """Return the places of the points that a plan joins, and of those that it parts: two lists, ascending."""
    words = plan.turns()
    joined = []
    parted = []
    for place, point in enumerate(ground.knots):
        if words[point] == ground.joins[place]:
            joined.append(place)
        else:
            parted.append(place)
    return joined, parted


def checked_halves(ground, plan):
    """Return the same of a plan of one line. Raise NotOneLine for any other plan."""
    joined, parted = joined_and_parted(ground, plan)
    if not is_one_line(ground, joined):
        raise NotOneLine(plan)
    return joined, parted


def is_one_line(ground, joined):
    """Tell whether a plan with these joined points is one line."""
    return len(joined) == ground.sizes["dark"] - 1 and len(tree_of(ground, "dark", joined)) == len(joined)


def tree_of(ground, color, places):
    """Return those of some points, in their order, that close no round of a color with the ones before them."""
    pairs = ground.pairs[color]
    regions = Groups(list(range(ground.sizes[color])))
    kept = []
    for place in places:
        one, other = pairs[place]
        if regions.unite(one, other):
            kept.append(place)
    return kept


def connecting_word(ground, color, place):
    """Return the word that connects the two squares of a color at a point."""
    joining = ground.joins[place]
    return joining if color == "dark" else OTHER_WORDS[joining]


def plan_connecting(figure, ground, color, places):
    """Return the plan that connects the two squares of a color just at some points."""
    chosen = {place: True for place in places}
    turns = {}
    for place, point in enumerate(ground.knots):
        word = connecting_word(ground, color, place)
        turns[point] = word if place in chosen else OTHER_WORDS[word]
    return Plan(figure, turns)
