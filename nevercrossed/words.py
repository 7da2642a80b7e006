"""The words of the package: integers, points, directions and edges on the paper."""

from nevercrossed.errors import InvalidDirection, InvalidEdge, InvalidPoint

LAST = 30
DIRECTIONS = "ruld"
STEPS = {"r": (1, 0), "u": (0, 1), "l": (-1, 0), "d": (0, -1)}
OPPOSITES = {"r": "l", "u": "d", "l": "r", "d": "u"}


def is_integer(value):
    """Tell whether any value is an integer; True and False are not."""
    return isinstance(value, int) and not isinstance(value, bool)


def is_point(value):
    """Tell whether any value is a point on the paper."""
    return _is_pair(value) and _is_coordinate(value[0]) and _is_coordinate(value[1])


def is_direction(value):
    """Tell whether any value is a direction."""
    # Only a string is looked up: other values may have no hash.
    return isinstance(value, str) and value in STEPS


def is_edge(value):
    """Tell whether any value is an edge, the lesser point first."""
    if not _is_pair(value) or not is_point(value[0]) or not is_point(value[1]):
        return False
    (x, y), (other_x, other_y) = value
    # The lesser point first: an edge goes right or up, never left or down.
    return (other_x - x, other_y - y) in ((1, 0), (0, 1))


def beside(point, direction):
    """Return the point that is reached in a direction, or None beyond the paper."""
    _check_point(point)
    _check_direction(direction)
    step_x, step_y = STEPS[direction]
    reached = (point[0] + step_x, point[1] + step_y)
    return reached if is_point(reached) else None


def direction_between(point, other):
    """Return the direction from a point to a neighboring one."""
    _check_point(point)
    _check_point(other)
    for direction in DIRECTIONS:
        if beside(point, direction) == other:
            return direction
    raise InvalidEdge((point, other))


def edge_between(point, other):
    """Return the edge that joins two neighboring points."""
    if direction_between(point, other) in ("r", "u"):
        return (point, other)
    return (other, point)


def opposite(direction):
    """Return the opposite direction."""
    _check_direction(direction)
    return OPPOSITES[direction]


def _is_pair(value):
    return isinstance(value, tuple) and len(value) == 2


def _is_coordinate(value):
    return is_integer(value) and 0 <= value <= LAST


def _check_point(value):
    if not is_point(value):
        raise InvalidPoint(value)


def _check_direction(value):
    if not is_direction(value):
        raise InvalidDirection(value)
