"""Plans of one line: how many, numbered, and found by number; and the plans of each number of lines."""

from nevercrossed.errors import InvalidNumber, TooLarge
from nevercrossed.ground import ground_of
from nevercrossed.plans import Plan
from nevercrossed.regions import check_color
from nevercrossed.spanning import checked_halves, connecting_word, ground_of_plan
from nevercrossed.trees import trees_of
from nevercrossed.words import is_integer

MOST_COUNTED = 80
MOST_DIVIDED = 12


def count(figure, *, color="dark"):
    """Return the number of the plans of one line of an even figure of one piece."""
    ground = counted_ground(figure)
    check_color(color)
    return _all_trees(ground, color).total


def nth_plan(figure, n):
    """Return the plan of one line with the index n."""
    ground = counted_ground(figure)
    color = _color_of_fewer_regions(ground)
    trees = _all_trees(ground, color)
    if not is_integer(n) or not 0 <= n < trees.total:
        raise InvalidNumber(n)
    turns = {}
    left = n
    for place, point in enumerate(ground.knots):
        many = _many_with_ru(ground, color, place, trees)
        turns[point] = "ru" if left < many else "rd"
        left = left if left < many else left - many
        trees = _with_word(ground, color, place, trees, turns[point])
    return Plan(figure, turns)


def number_of(plan):
    """Return the index of a plan of one line."""
    ground = ground_of_plan(plan)
    _check_size(ground, MOST_COUNTED)
    checked_halves(ground, plan)
    color = _color_of_fewer_regions(ground)
    trees = _all_trees(ground, color)
    number = 0
    for place, point in enumerate(ground.knots):
        if plan[point] == "rd":
            number += _many_with_ru(ground, color, place, trees)
        trees = _with_word(ground, color, place, trees, plan[point])
    return number


def counts_by_lines(figure):
    """Return a dict from each number of lines to the number of plans with so many lines."""
    ground = ground_of(figure)
    _check_size(ground, MOST_DIVIDED)
    size = ground.sizes["dark"]
    pairs = ground.pairs["dark"]
    last_places = {region: place for place, pair in enumerate(pairs) for region in pair}
    # The plans of the points so far, counted by lines: there is one for each part of the dark graph with the joined
    # points alone, and one for each independent round. Plans that connect the regions in the same way are counted
    # together: by the names of the parts of the regions, -1 for a region that has no later point.
    many = {tuple(range(size)): {size: 1}}
    for place, (one, other) in enumerate(pairs):
        following = {}
        for parts, counts in many.items():
            _add(following, _renamed(parts, last_places, place), counts, 0)
            if parts[one] == parts[other]:
                _add(following, _renamed(parts, last_places, place), counts, 1)
            else:
                connected = [parts[one] if part == parts[other] else part for part in parts]
                _add(following, _renamed(connected, last_places, place), counts, -1)
        many = following
    # All regions are without later points now.
    total = list(many.values())[0]
    return {lines: total[lines] for lines in sorted(total)}


def counted_ground(figure):
    """Return the ground of a figure whose plans are counted. Raise what Regions raises, or TooLarge."""
    ground = ground_of(figure)
    _check_size(ground, MOST_COUNTED)
    return ground


def _check_size(ground, most):
    if len(ground.knots) > most:
        raise TooLarge(len(ground.knots))


def _color_of_fewer_regions(ground):
    return "dark" if ground.sizes["dark"] <= ground.sizes["light"] else "light"


def _all_trees(ground, color):
    if color not in ground.trees:
        ground.trees[color] = trees_of(ground.sizes[color], ground.pairs[color])
    return ground.trees[color]


def _many_with_ru(ground, color, place, trees):
    one, other = ground.pairs[color][place]
    many = trees.many_with(one, other)
    return many if connecting_word(ground, color, place) == "ru" else trees.total - many


def _with_word(ground, color, place, trees, word):
    one, other = ground.pairs[color][place]
    if connecting_word(ground, color, place) == word:
        return trees.only_with(one, other)
    return trees.only_without(one, other)


def _renamed(parts, last_places, place):
    names = {}
    shown = []
    for region, part in enumerate(parts):
        if last_places.get(region, -1) <= place:
            shown.append(-1)
        else:
            shown.append(names.setdefault(part, len(names)))
    return tuple(shown)


def _add(many, parts, counts, more_lines):
    known = many.setdefault(parts, {})
    for lines, plans in counts.items():
        known[lines + more_lines] = known.get(lines + more_lines, 0) + plans
