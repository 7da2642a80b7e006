"""Texts: figures as pictures of signs, and walks as words."""

from nevercrossed.errors import BadText, InvalidWalk
from nevercrossed.figures import held_by, numbered_figure
from nevercrossed.grid import LAST, SIDE
from nevercrossed.words import STEPS, is_point, is_walk, way_between

# A walk with a text has at most so many points.
MOST_POINTS = 401


def picture(figure):
    """Return the picture of a figure: rows of the signs + - | and spaces, the topmost row first."""
    points = figure.points()
    height = max([y for _, y in points], default=-1)
    # One row for each y from 0 up, and one between each two of them; later the other way round.
    rows = [[" "] * (2 * SIDE) for _ in range(2 * height + 1)]
    for x, y in points:
        rows[2 * y][2 * x] = "+"
    for number in held_by(figure):
        x, y = divmod(number // 2, SIDE)
        if number % 2 == 1:
            rows[2 * y][2 * x + 1] = "-"
        else:
            rows[2 * y + 1][2 * x] = "|"
    return "\n".join(["".join(row).rstrip() for row in rows[::-1]])


def read_picture(text):
    """Return the figure with a picture."""
    rows = text.split("\n")
    numbers = []
    for place, row in enumerate(rows[::-1]):
        numbers.extend(_numbers_in_row(place, row))
    figure = numbered_figure(numbers)
    expected = picture(figure)
    if expected != text:
        raise BadText(_first_difference(rows, expected.split("\n")))
    return figure


def walk_text(walk):
    """Return the text of a walk: its first point and the directions of its steps."""
    if not is_walk(walk) or len(walk) > MOST_POINTS:
        raise InvalidWalk(walk)
    x, y = walk[0]
    steps = [way_between(point, other) for point, other in zip(walk[:-1], walk[1:])]
    return f"{x},{y} " + "".join(steps)


def read_walk(text):
    """Return the walk with a text."""
    start, _, steps = text.partition(" ") if isinstance(text, str) else ("", "", "")
    walk = [_read_point(start)]
    if walk[0] is None or not 0 < len(steps) < MOST_POINTS:
        raise BadText(1)
    x, y = walk[0]
    for step in steps:
        if step not in STEPS:
            raise BadText(1)
        step_x, step_y = STEPS[step]
        x, y = x + step_x, y + step_y
        walk.append((x, y))
    if not all([is_point(point) for point in walk]):
        raise BadText(1)
    return tuple(walk)


def _numbers_in_row(place, row):
    """Return the numbers of the edges whose signs stand in a row of a picture, its place counted from the bottom."""
    if place > 2 * LAST:
        return []
    y = place // 2
    if place % 2 == 0:
        signs = row[:2 * LAST]
        return [2 * (SIDE * (at // 2) + y) + 1 for at, sign in enumerate(signs) if sign == "-" and at % 2 == 1]
    signs = row[:2 * LAST + 1]
    return [2 * (SIDE * (at // 2) + y) for at, sign in enumerate(signs) if sign == "|" and at % 2 == 0]


def _first_difference(rows, expected):
    """Return the number, from 1 on, of the first row that is not the same in two lists that are not the same."""
    for place, (row, other) in enumerate(zip(rows, expected)):
        if row != other:
            return place + 1
    return min(len(rows), len(expected)) + 1


def _read_point(text):
    """Return the point that is written as two numbers with a comma between them, or None for any other string."""
    words = text.split(",")
    if len(words) != 2 or not _is_coordinate(words[0]) or not _is_coordinate(words[1]):
        return None
    return (int(words[0]), int(words[1]))


def _is_coordinate(word):
    # No coordinate has more than two digits, and longer words would be long to read.
    return len(word) <= 2 and word.isascii() and word.isdecimal() and str(int(word)) == word and int(word) <= LAST
