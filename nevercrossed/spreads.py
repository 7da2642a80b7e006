"""Plans that spread: several plans of one line that together join, or part, as many points as possible."""

from nevercrossed.apart import Apart
from nevercrossed.counting import counted_ground
from nevercrossed.errors import InvalidNumber
from nevercrossed.plans import OTHER_WORDS, check_crossings
from nevercrossed.regions import check_color
from nevercrossed.spanning import connecting_word, plan_connecting, tree_of
from nevercrossed.words import is_integer

MOST_PLANS = 6


def spread(figure, k, *, color="dark"):
    """Return k plans of one line; as many points as possible are joined (dark) or parted (light) in at least one."""
    ground = counted_ground(figure)
    _check_number_and_color(k, color)
    every = list(range(len(ground.knots)))
    # Each forest becomes a spanning tree; the points that it gets are in other ones already.
    trees = [tree_of(ground, color, part + every) for part in _apart(ground, color, k).parts()]
    return tuple([plan_connecting(figure, ground, color, tree) for tree in trees])


def spread_bound(figure, points, k, *, color="dark"):
    """Return the number that, as some points show, no k plans of one line can exceed with what they join or part."""
    ground = counted_ground(figure)
    check_crossings(figure, points)
    _check_number_and_color(k, color)
    # Each edge of a spanning tree of the points makes one part less.
    tree = tree_of(ground, color, [ground.places[point] for point in points])
    return len(ground.knots) - len(points) + k * len(tree)


def spread_paper(figure, k, *, color="dark"):
    """Return points for which the bound is the number that the plans of spread reach."""
    ground = counted_ground(figure)
    _check_number_and_color(k, color)
    return tuple([ground.knots[place] for place in _apart(ground, color, k).within_clumps()])


def opposite(figure):
    """Return a plan of one line whose opposite is one line, or a color and points that show that there is none."""
    ground = counted_ground(figure)
    apart = _apart(ground, "dark", 2)
    first, second = apart.parts()
    if len(first) + len(second) < len(ground.knots):
        return ("dark", tuple([ground.knots[place] for place in apart.within_clumps()]))
    # Two plans can part all points only if there are no fewer light regions than dark ones.
    if ground.sizes["light"] < ground.sizes["dark"]:
        return ("light", ground.knots)
    return plan_connecting(figure, ground, "dark", first)


def fixed_words(figure):
    """Return a dict from the points at which all plans of one line have the same word to this word."""
    ground = counted_ground(figure)
    fixed = {}
    for place, point in enumerate(ground.knots):
        for color in ("dark", "light"):
            one, other = ground.pairs[color][place]
            # To connect a region with itself would close a round.
            if one == other:
                fixed[point] = OTHER_WORDS[connecting_word(ground, color, place)]
    return fixed


def _check_number_and_color(k, color):
    if not is_integer(k) or not 1 <= k <= MOST_PLANS:
        raise InvalidNumber(k)
    check_color(color)


def _apart(ground, color, k):
    """Return the forests of a color, made only once for each figure."""
    if (color, k) not in ground.apart:
        ground.apart[(color, k)] = Apart(ground.sizes[color], ground.pairs[color], k)
    return ground.apart[(color, k)]
