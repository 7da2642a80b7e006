"""Figures: finite sets of edges on the paper."""

from nevercrossed.errors import BeyondPaper, InvalidEdges, InvalidFigure, InvalidNumber, InvalidPoint, TooLarge
from nevercrossed.words import LAST, edge_between, is_edge, is_integer, is_point

MOST_EDGES = 400


class Figure:
    """A figure: a finite set of edges. It never changes; each deed with it gives a new one."""

    def __init__(self, edges=()):
        if not _is_list_of_edges(edges):
            raise InvalidEdges(edges)
        different = sorted(set(edges))
        if len(different) > MOST_EDGES:
            raise TooLarge(len(different))
        self.edges = tuple(different)
        self._held = {edge: True for edge in different}
        self._letters = _letters_by_point(self._held)

    def points(self):
        """Return the tuple of the points, ascending."""
        return tuple(self._letters)

    def odd_points(self):
        """Return the tuple of the points of odd degree, ascending."""
        return tuple([point for point in self._letters if len(self._letters[point]) % 2 == 1])

    def directions(self, point):
        """Return the directions of the edges at a point, in the order r, u, l, d."""
        if not is_point(point):
            raise InvalidPoint(point)
        return self._letters.get(point, "")

    def shifted(self, dx, dy):
        """Return the figure moved by dx to the right and by dy up."""
        _check_shift(dx)
        _check_shift(dy)
        moved = [((x + dx, y + dy), (far_x + dx, far_y + dy)) for (x, y), (far_x, far_y) in self.edges]
        if not _is_list_of_edges(moved):
            raise BeyondPaper(self)
        return Figure(moved)

    def turned(self):
        """Return the figure with each point (x, y) at (30 - y, x)."""
        return Figure([edge_between(_turned_point(point), _turned_point(other)) for point, other in self.edges])

    def mirrored(self):
        """Return the figure with each point (x, y) at (30 - x, y)."""
        return Figure([edge_between(_mirrored_point(point), _mirrored_point(other)) for point, other in self.edges])

    def __len__(self):
        return len(self.edges)

    def __contains__(self, edge):
        # The question comes first: a value may have no hash, and True would be taken for 1.
        return is_edge(edge) and edge in self._held

    def __eq__(self, other):
        return isinstance(other, Figure) and self.edges == other.edges

    def __or__(self, other):
        _check_figure(other)
        return Figure(self.edges + other.edges)

    def __and__(self, other):
        _check_figure(other)
        return Figure([edge for edge in self.edges if edge in other])

    def __sub__(self, other):
        _check_figure(other)
        return Figure([edge for edge in self.edges if edge not in other])

    def __xor__(self, other):
        _check_figure(other)
        return (self - other) | (other - self)


def _is_list_of_edges(value):
    return isinstance(value, (list, tuple)) and all([is_edge(item) for item in value])


def _letters_by_point(held):
    points = sorted({point for edge in held for point in edge})
    return {point: _letters_at(point, held) for point in points}


def _letters_at(point, held):
    x, y = point
    ways = (
        ("r", (point, (x + 1, y))),
        ("u", (point, (x, y + 1))),
        ("l", ((x - 1, y), point)),
        ("d", ((x, y - 1), point)),
    )
    return "".join([letter for letter, edge in ways if edge in held])


def _check_figure(value):
    if not isinstance(value, Figure):
        raise InvalidFigure(value)


def _check_shift(value):
    if not is_integer(value) or not -LAST <= value <= LAST:
        raise InvalidNumber(value)


def _turned_point(point):
    x, y = point
    return (LAST - y, x)


def _mirrored_point(point):
    x, y = point
    return (LAST - x, y)
