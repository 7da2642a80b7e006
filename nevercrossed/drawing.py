"""Plans drawn exactly: paths in eighths of a unit, whose corners are cut, so that they have no place in common."""

from nevercrossed.errors import InvalidPaths
from nevercrossed.figures import MOST_EDGES, forks_of, numbered_figure
from nevercrossed.grid import LAST, OFFSETS, SIDE
from nevercrossed.plans import Plan
from nevercrossed.words import is_integer

UNIT = 8
QUARTER = 2
# From a position near a point, less that of the point itself, to the direction.
SIDES = {(2, 0): "r", (0, 2): "u", (-2, 0): "l", (0, -2): "d"}


def drawn(plan):
    """Return the tuple of the paths of the lines of a plan."""
    return tuple([_path_of(line) for line in plan.lines()])


def read_drawn(paths):
    """Return the plan whose paths these are."""
    if not isinstance(paths, (list, tuple)) or not all([_is_path(path) for path in paths]):
        raise InvalidPaths(paths)
    plan = _likely_plan(paths)
    # What the paths were not asked for is told by the paths of the plan.
    if plan is None or drawn(plan) != tuple(paths):
        raise InvalidPaths(paths)
    return plan


def _path_of(walk):
    path = []
    before = None
    for (x, y), (far_x, far_y) in zip(walk[:-1], walk[1:]):
        step = (far_x - x, far_y - y)
        across, along = QUARTER * step[0], QUARTER * step[1]
        if step == before:
            path.append((UNIT * x, UNIT * y))
        path.append((UNIT * x + across, UNIT * y + along))
        path.append((UNIT * far_x - across, UNIT * far_y - along))
        before = step
    if walk[0] == walk[-1]:
        path.append(path[0])
    return tuple(path)


def _is_path(value):
    return isinstance(value, tuple) and all([_is_position(position) for position in value])


def _is_position(value):
    if not isinstance(value, tuple) or len(value) != 2:
        return False
    x, y = value
    return is_integer(x) and is_integer(y) and 0 <= x <= UNIT * LAST and 0 <= y <= UNIT * LAST


def _likely_plan(paths):
    """Return the plan with these paths if there is one, and otherwise another plan or None."""
    held = {}
    paired = {}
    for path in paths:
        ends = [end for end in [_end_at(position) for position in path] if end is not None]
        for number, way in ends:
            held[2 * number + OFFSETS[way]] = True
        for (number, way), (following, way_on) in zip(ends[:-1], ends[1:]):
            if number == following:
                paired[(number, way)] = way_on
                paired[(number, way_on)] = way
    if len(held) > MOST_EDGES:
        return None
    figure = numbered_figure(list(held))
    turns = {}
    for (x, y), ways in forks_of(figure).items():
        turns[(x, y)] = _likely_word(SIDE * x + y, ways, paired)
    return Plan(figure, turns)


def _end_at(position):
    """Return the number of the point near a position and the direction of the edge there, or None if there is none."""
    x, y = (position[0] + QUARTER) // UNIT, (position[1] + QUARTER) // UNIT
    way = SIDES.get((position[0] - UNIT * x, position[1] - UNIT * y))
    return None if way is None else (SIDE * x + y, way)


def _likely_word(number, ways, paired):
    if len(ways) == 4:
        return "ru" if paired.get((number, "r")) == "u" else "rd"
    ending = [way for way in ways if (number, way) not in paired]
    return ending[0] if ending else ways[0]
