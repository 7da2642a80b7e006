"""The ground of an even figure of one piece: how its dark and light regions meet at the points of degree 4."""

from nevercrossed.errors import InvalidFigure, NotOnePiece
from nevercrossed.figures import Figure, check_even, held_by, letters_of
from nevercrossed.grid import PARTNERS, SIDE, STRIDES


class Ground:
    """The regions by color and number, and those around each point of degree 4; but not their cells."""

    def __init__(self, figure):
        check_even(figure)
        letters = letters_of(figure)
        # The upright edges by the number of their lower end, which is also that of the cell on their right.
        sides = [number // 2 for number in held_by(figure) if number % 2 == 0]
        if not sides:
            raise NotOnePiece(figure)
        by_dart, self.sizes = _regions_by_dart(sides, letters)
        # Euler: with more pieces there are more borders, because the outside of each piece has one of its own.
        if self.sizes["dark"] + self.sizes["light"] != len(figure) - len(letters) + 2:
            raise NotOnePiece(figure)
        self.right_of = {side: by_dart[4 * (side + 1) + 3] for side in sides}
        knots = [number for number, ways in letters.items() if len(ways) == 4]
        # The points of degree 4, ascending; in the same order, the words that join them, and the pairs of the numbers
        # of the regions that meet there.
        self.knots = tuple([divmod(number, SIDE) for number in knots])
        self.joins = tuple([_joining_word(number, by_dart) for number in knots])
        self.pairs = {color: tuple([_pair(color, number, by_dart) for number in knots]) for color in ("dark", "light")}
        self.places = {point: place for place, point in enumerate(self.knots)}
        # The spanning trees of the graph of each color, by those who count them first.
        self.trees = {}
        # Forests that have no point in common, by those who ask for plans that spread.
        self.apart = {}


def ground_of(figure):
    """Return the ground of a figure, made only once for each figure. Raise what Regions raises."""
    if not isinstance(figure, Figure):
        raise InvalidFigure(figure)
    if figure._ground is None:
        figure._ground = Ground(figure)
    return figure._ground


def _regions_by_dart(sides, letters):
    """Return the color and the number of the region on the left of each dart, and the number of regions by color.

    A dart is an edge that leaves a point: four times the number of the point, and the number of the direction.
    """
    by_dart = {}
    sizes = {"dark": 0, "light": 1}
    # No edge is further left than the first one, so the outside is on the left of it.
    _go_round(4 * sides[0] + 1, ("light", 0), letters, by_dart)
    is_dark = [False] * SIDE
    for side in sides:
        row = side % SIDE
        is_dark[row] = not is_dark[row]
        # Down the edge, the cell on its right is on the left. The first dart of a region is met at its least cell.
        dart = 4 * (side + 1) + 3
        if dart not in by_dart:
            color = "dark" if is_dark[row] else "light"
            _go_round(dart, (color, sizes[color]), letters, by_dart)
            sizes[color] += 1
    return by_dart, sizes


def _go_round(dart, region, letters, by_dart):
    while dart not in by_dart:
        by_dart[dart] = region
        point, way = divmod(dart, 4)
        point += STRIDES[way]
        # The edge by which the point is reached is at the place `way - 2`, counted from the right or from the left.
        dart = 4 * point + PARTNERS[letters[point]][way - 2]


def _joining_word(number, by_dart):
    # The dart to the right has the square between r and u on its left.
    return "rd" if by_dart[4 * number][0] == "dark" else "ru"


def _pair(color, number, by_dart):
    first = 4 * number if by_dart[4 * number][0] == color else 4 * number + 1
    one, other = by_dart[first][1], by_dart[first + 2][1]
    return (one, other) if one <= other else (other, one)
