"""Regions: the dark and the light parts into which an even figure of one piece divides the plane."""

from nevercrossed.cells import is_cell
from nevercrossed.errors import InvalidCells, InvalidColor, InvalidPoint
from nevercrossed.grid import LAST, SIDE
from nevercrossed.ground import ground_of
from nevercrossed.words import is_point


class Regions:
    """The regions of an even figure of one piece: tuples of cells, by color."""

    def __init__(self, figure):
        self._ground = ground_of(figure)
        dark, light = _cells_by_region(self._ground)
        self.dark = tuple([tuple(cells) for cells in dark])
        self.light = tuple([tuple(cells) for cells in light])

    def find(self, cell):
        """Return the color and the number of the region of a cell."""
        if not is_cell(cell):
            raise InvalidCells(cell)
        x, y = cell
        side = SIDE * x + y
        # The cell is in one region with those on its left, up to an edge or to the rim of the paper.
        while side >= 0 and side not in self._ground.right_of:
            side -= SIDE
        return self._ground.right_of.get(side, ("light", 0))

    def crossings(self):
        """Return the tuple of the points of degree 4, ascending."""
        return self._ground.knots

    def between(self, color, point):
        """Return the numbers of the two regions of a color at a point of degree 4, the lesser one first."""
        check_color(color)
        return self._ground.pairs[color][self._place(point)]

    def joining(self, point):
        """Return the word that joins a point of degree 4."""
        return self._ground.joins[self._place(point)]

    def _place(self, point):
        if not is_point(point) or point not in self._ground.places:
            raise InvalidPoint(point)
        return self._ground.places[point]


def is_color(value):
    """Tell whether any value is a color."""
    return value in ("dark", "light")


def check_color(value):
    """Raise InvalidColor if any value is not a color."""
    if not is_color(value):
        raise InvalidColor(value)


def _cells_by_region(ground):
    """Return the list of the dark regions and that of the light ones, as lists of cells, ascending."""
    dark = [[] for _ in range(ground.sizes["dark"])]
    light = [[] for _ in range(ground.sizes["light"])]
    # The region to which the next cell of each row belongs: beyond the rim on the left all is outside.
    rows = [light[0]] * LAST
    for x in range(LAST):
        for y in range(LAST):
            if SIDE * x + y in ground.right_of:
                color, number = ground.right_of[SIDE * x + y]
                rows[y] = dark[number] if color == "dark" else light[number]
            rows[y].append((x, y))
    return dark, light
