"""The words of the package: integers, points, directions and edges on the paper."""

from nevercrossed.errors import InvalidDirection, InvalidEdge, InvalidPoint
from nevercrossed.grid import LAST, SIDE

STEPS = {"r": (1, 0), "u": (0, 1), "l": (-1, 0), "d": (0, -1)}
WAYS = {(1, 0): "r", (0, 1): "u", (-1, 0): "l", (0, -1): "d"}
OPPOSITES = {"r": "l", "u": "d", "l": "r", "d": "u"}


def is_integer(value):
    """Tell whether any value is an integer; True and False are not."""
    return isinstance(value, int) and not isinstance(value, bool)


def is_point(value):
    """Tell whether any value is a point on the paper."""
    if not isinstance(value, tuple) or len(value) != 2:
        return False
    x, y = value
    return is_integer(x) and is_integer(y) and 0 <= x <= LAST and 0 <= y <= LAST


def is_direction(value):
    """Tell whether any value is a direction."""
    # Only a string is looked up: other values may have no hash.
    return isinstance(value, str) and value in STEPS


def is_edge(value):
    """Tell whether any value is an edge, the lesser point first."""
    return edge_number(value) is not None


def edge_number(value):
    """Return the number of an edge, or None for any other value."""
    # Figures are made of many edges, so nothing is asked twice here and no function is called for the parts.
    if not isinstance(value, tuple) or len(value) != 2:
        return None
    point, other = value
    if not isinstance(point, tuple) or len(point) != 2:
        return None
    x, y = point
    if not isinstance(x, int) or not isinstance(y, int) or not 0 <= x <= LAST or not 0 <= y <= LAST:
        return None
    if other == (x, y + 1) and y < LAST:
        number = 2 * (SIDE * x + y)
    elif other == (x + 1, y) and x < LAST:
        number = 2 * (SIDE * x + y) + 1
    else:
        return None
    # True and False are equal to 1 and 0, but to no greater number.
    if x < 2 or y < 2:
        far_x, far_y = other
        if _has_truth(x, y) or _has_truth(far_x, far_y):
            return None
    return number


def is_walk(value):
    """Tell whether any value is a walk: a tuple of two or more points, each two successive ones neighbors."""
    if not isinstance(value, tuple) or len(value) < 2 or not all([is_point(point) for point in value]):
        return False
    return all([way_between(point, other) is not None for point, other in zip(value[:-1], value[1:])])


def step_number(point, other):
    """Return the number of the edge between two points that are known to be neighbors, in either order."""
    (x, y), (far_x, far_y) = point, other
    return 2 * (SIDE * min(x, far_x) + min(y, far_y)) + abs(far_x - x)


def beside(point, direction):
    """Return the point that is reached in a direction, or None beyond the paper."""
    _check_point(point)
    _check_direction(direction)
    step_x, step_y = STEPS[direction]
    reached = (point[0] + step_x, point[1] + step_y)
    return reached if is_point(reached) else None


def direction_between(point, other):
    """Return the direction from a point to a neighboring one."""
    _check_point(point)
    _check_point(other)
    direction = way_between(point, other)
    if direction is None:
        raise InvalidEdge((point, other))
    return direction


def way_between(point, other):
    """Return the direction between two points that are known to be points, or None if they are not neighbors."""
    (x, y), (far_x, far_y) = point, other
    return WAYS.get((far_x - x, far_y - y))


def edge_between(point, other):
    """Return the edge that joins two neighboring points."""
    if direction_between(point, other) in ("r", "u"):
        return (point, other)
    return (other, point)


def opposite(direction):
    """Return the opposite direction."""
    _check_direction(direction)
    return OPPOSITES[direction]


def _has_truth(x, y):
    return x is True or x is False or y is True or y is False


def _check_point(value):
    if not is_point(value):
        raise InvalidPoint(value)


def _check_direction(value):
    if not is_direction(value):
        raise InvalidDirection(value)
