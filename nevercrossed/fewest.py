"""The fewest lines: pieces, best plans, and whether walks divide a figure."""

from nevercrossed.errors import InvalidWalk, InvalidWalks
from nevercrossed.figures import forks_of, held_by, letters_of, part_of
from nevercrossed.grid import NEIGHBORS, OFFSETS, SIDE
from nevercrossed.groups import Groups
from nevercrossed.plans import Plan
from nevercrossed.words import is_walk, step_number


def pieces(figure):
    """Return the tuple of the pieces of a figure as figures, ascending by their edges."""
    places = _pieces_by_point(letters_of(figure))
    parts = []
    for number in held_by(figure):
        place = places[number // 2]
        # The least edge of a piece is at its least point, so the pieces are met in their order.
        if place == len(parts):
            parts.append([])
        parts[place].append(number)
    return tuple([part_of(figure, numbers) for numbers in parts])


def fewest(figure):
    """Return the least number of lines that a plan of a figure has."""
    letters = letters_of(figure)
    places = _pieces_by_point(letters)
    odd = {}
    for number, ways in letters.items():
        place = places[number]
        odd[place] = odd.get(place, 0) + len(ways) % 2
    return sum([max(1, many // 2) for many in odd.values()])


def best_plan(figure):
    """Return a plan with the fewest lines."""
    forks = forks_of(figure)
    turns = {point: "ru" if len(ways) == 4 else ways[0] for point, ways in forks.items()}
    lines = Groups(held_by(figure))
    meetings = []
    for number, ways in letters_of(figure).items():
        point = divmod(number, SIDE)
        strands = _strands(number, ways, turns.get(point, ""))
        for strand in strands:
            lines.unite(strand[0], strand[-1])
        if len(strands) == 2:
            meetings.append((point, strands[0][0], strands[1][0]))
    # Where two lines meet and at least one is closed, turning makes them one. Where both have ends, it makes two others
    # with ends of them. So no closed line is left that meets another line; and there are always as many with ends.
    for point, edge, other in meetings:
        if lines.unite(edge, other):
            turns[point] = "rd" if len(forks[point]) == 4 else forks[point][1]
    return Plan(figure, turns)


def division_fault(figure, walks):
    """Return None if the walks divide the figure, and otherwise the index of the first faulty walk, or their number."""
    if not isinstance(walks, (list, tuple)):
        raise InvalidWalks(walks)
    for walk in walks:
        if not is_walk(walk):
            raise InvalidWalk(walk)
    held = held_by(figure)
    passed = {}
    for index, walk in enumerate(walks):
        for point, other in zip(walk[:-1], walk[1:]):
            number = step_number(point, other)
            if number not in held or number in passed:
                return index
            passed[number] = True
    return None if len(passed) == len(held) else len(walks)


def _pieces_by_point(letters):
    """Return the number of the piece of each point, by its number; pieces are numbered by their least points."""
    places = {}
    many = 0
    for start in letters:
        if start not in places:
            _fill(start, many, letters, places)
            many += 1
    return places


def _fill(start, place, letters, places):
    places[start] = place
    waiting = [start]
    while waiting:
        number = waiting.pop()
        for way in letters[number]:
            near = number + NEIGHBORS[way]
            if near not in places:
                places[near] = place
                waiting.append(near)


def _strands(number, ways, word):
    """Return the edges at a point that are paired there, and the one that ends there: one or two lists of edges."""
    rest = "".join([way for way in ways if way not in word])
    # The word names a pair, or the edge that ends; the other edges are the other pair or, without a word, all.
    return [[2 * number + OFFSETS[way] for way in part] for part in (word, rest) if part != ""]
