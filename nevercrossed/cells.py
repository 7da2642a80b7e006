"""Cells: the squares of the paper, and the figures that are their borders."""

from nevercrossed.errors import InvalidCells
from nevercrossed.figures import check_even, held_by, numbered_figure
from nevercrossed.grid import LAST, SIDE
from nevercrossed.words import is_point


def is_cell(value):
    """Tell whether any value is a cell."""
    return is_point(value) and value[0] < LAST and value[1] < LAST


def border(cells):
    """Return the figure of the sides that belong to exactly one of the cells."""
    if not isinstance(cells, (list, tuple)) or not all([is_cell(cell) for cell in cells]):
        raise InvalidCells(cells)
    # A cell has the number of its left lower corner, a side that of its edge.
    different = {SIDE * x + y: True for x, y in cells}
    sides = []
    for cell in different:
        left = 2 * cell
        if cell - SIDE not in different:
            sides.append(left)
        if cell + SIDE not in different:
            sides.append(left + 2 * SIDE)
        if cell - 1 not in different:
            sides.append(left + 1)
        if cell + 1 not in different:
            sides.append(left + 3)
    return numbered_figure(sides)


def dark_cells(figure):
    """Return the tuple of the dark cells of an even figure, ascending."""
    check_even(figure)
    dark = []
    # A row becomes dark at one of its upright edges and light again at the next one.
    begun = {}
    for number in held_by(figure):
        side = number // 2
        if number % 2 == 0 and side % SIDE in begun:
            dark.extend(list(range(begun.pop(side % SIDE), side, SIDE)))
        elif number % 2 == 0:
            begun[side % SIDE] = side
    return tuple([divmod(cell, SIDE) for cell in sorted(dark)])
