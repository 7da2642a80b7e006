"""Figures: finite sets of edges on the paper."""

from nevercrossed.errors import (
    BeyondPaper, InvalidEdges, InvalidFigure, InvalidNumber, InvalidPoint, NotEven, TooLarge,
)
from nevercrossed.grid import LAST, LETTERS, SIDE, numbered_edge
from nevercrossed.words import edge_number, is_integer, is_point

MOST_EDGES = 400


class Held:
    """Edges by their numbers, ascending: known to be edges of the paper, so that nobody checks them again."""

    def __init__(self, by_number):
        self.by_number = by_number


class Figure:
    """A figure: a finite set of edges. It never changes; each deed with it gives a new one."""

    def __init__(self, edges=()):
        held = edges.by_number if isinstance(edges, Held) else _checked(edges)
        if len(held) > MOST_EDGES:
            raise TooLarge(len(held))
        self.edges = tuple(held.values())
        self._held = held
        # Found when they are asked for first: most figures are only put together with others.
        self._letters = None
        self._forks = None
        self._ground = None

    def points(self):
        """Return the tuple of the points, ascending."""
        return tuple([divmod(number, SIDE) for number in letters_of(self)])

    def odd_points(self):
        """Return the tuple of the points of odd degree, ascending."""
        return tuple([divmod(number, SIDE) for number, ways in letters_of(self).items() if len(ways) % 2 == 1])

    def directions(self, point):
        """Return the directions of the edges at a point, in the order r, u, l, d."""
        if not is_point(point):
            raise InvalidPoint(point)
        x, y = point
        return letters_of(self).get(SIDE * x + y, "")

    def shifted(self, dx, dy):
        """Return the figure moved by dx to the right and by dy up."""
        _check_shift(dx)
        _check_shift(dy)
        moved = [((x + dx, y + dy), (far_x + dx, far_y + dy)) for (x, y), (far_x, far_y) in self.edges]
        if _are_beyond_paper(moved):
            raise BeyondPaper(self)
        farther = 2 * (SIDE * dx + dy)
        return Figure(Held({number + farther: edge for number, edge in zip(self._held, moved)}))

    def turned(self):
        """Return the figure with each point (x, y) at (30 - y, x)."""
        return _figure_of([((LAST - far_y, x), (LAST - y, far_x)) for (x, y), (far_x, far_y) in self.edges])

    def mirrored(self):
        """Return the figure with each point (x, y) at (30 - x, y)."""
        return _figure_of([((LAST - far_x, y), (LAST - x, far_y)) for (x, y), (far_x, far_y) in self.edges])

    def __len__(self):
        return len(self.edges)

    def __contains__(self, edge):
        # No edge has the number None, which all other values have.
        return edge_number(edge) in self._held

    def __eq__(self, other):
        return isinstance(other, Figure) and self.edges == other.edges

    def __or__(self, other):
        _check_figure(other)
        return Figure(Held(_ascending({**self._held, **other._held})))

    def __and__(self, other):
        _check_figure(other)
        return Figure(Held({number: edge for number, edge in self._held.items() if number in other._held}))

    def __sub__(self, other):
        _check_figure(other)
        return Figure(Held(_left_over(self._held, other._held)))

    def __xor__(self, other):
        _check_figure(other)
        mine = _left_over(self._held, other._held)
        others = _left_over(other._held, self._held)
        return Figure(Held(_ascending({**mine, **others})))


def held_by(figure):
    """Return the edges of a figure by their numbers, ascending. They are the figure's own: not to be modified."""
    return figure._held


def letters_of(figure):
    """Return the directions at each point, by its number, ascending. They are the figure's own: not to be modified."""
    if figure._letters is None:
        figure._letters = _letters_by_number(figure._held)
    return figure._letters


def forks_of(figure):
    """Return the directions at each point of degree 3 and 4, likewise, but by the points themselves."""
    if figure._forks is None:
        letters = letters_of(figure)
        figure._forks = {divmod(number, SIDE): letters[number] for number in letters if len(letters[number]) > 2}
    return figure._forks


def is_crossing(figure, value):
    """Tell whether any value is a point of degree 4 of a figure."""
    if not is_point(value):
        return False
    x, y = value
    return letters_of(figure).get(SIDE * x + y, "") == "ruld"


def check_even(figure):
    """Raise NotEven with the least odd point of a figure, if there is one."""
    for number, ways in letters_of(figure).items():
        if len(ways) % 2 == 1:
            raise NotEven(divmod(number, SIDE))


def numbered_figure(numbers):
    """Return the figure of the edges with the numbers of a list: different ones, in any order."""
    if len(numbers) > MOST_EDGES:
        raise TooLarge(len(numbers))
    return Figure(Held({number: numbered_edge(number) for number in sorted(numbers)}))


def part_of(figure, numbers):
    """Return the figure of some of the edges of a figure, given by their numbers, ascending."""
    return Figure(Held({number: figure._held[number] for number in numbers}))


def figure_with(figure, numbers):
    """Return a figure with the edges with some more numbers, or the same one if it has them all. Raise TooLarge."""
    more = {number: numbered_edge(number) for number in numbers if number not in figure._held}
    return Figure(Held(_ascending({**figure._held, **more}))) if more else figure


def figure_without(figure, numbers):
    """Return a figure without the edges with some numbers, or the same one if it has none of them."""
    gone = {number: True for number in numbers if number in figure._held}
    return Figure(Held(_left_over(figure._held, gone))) if gone else figure


def _checked(edges):
    if not isinstance(edges, (list, tuple)):
        raise InvalidEdges(edges)
    held = {}
    for edge in edges:
        number = edge_number(edge)
        if number is None:
            raise InvalidEdges(edges)
        held[number] = edge
    return _ascending(held)


def _figure_of(edges):
    return Figure(Held(_ascending({_number_of(edge): edge for edge in edges})))


def _number_of(edge):
    # As edge_number, but only for what is an edge.
    (x, y), (far_x, _) = edge
    return 2 * (SIDE * x + y) + far_x - x


def _ascending(held):
    numbers = sorted(held)
    return held if numbers == list(held) else {number: held[number] for number in numbers}


def _left_over(held, others):
    return {number: edge for number, edge in held.items() if number not in others}


def _letters_by_number(held):
    marks = {}
    for number in held:
        point = number // 2
        if number % 2 == 1:
            marks[point] = marks.get(point, 0) + 1
            marks[point + SIDE] = marks.get(point + SIDE, 0) + 4
        else:
            marks[point] = marks.get(point, 0) + 2
            marks[point + 1] = marks.get(point + 1, 0) + 8
    return {point: LETTERS[marks[point]] for point in sorted(marks)}


def _are_beyond_paper(edges):
    return any([x < 0 or y < 0 or far_x > LAST or far_y > LAST for (x, y), (far_x, far_y) in edges])


def _check_figure(value):
    if not isinstance(value, Figure):
        raise InvalidFigure(value)


def _check_shift(value):
    if not is_integer(value) or not -LAST <= value <= LAST:
        raise InvalidNumber(value)
