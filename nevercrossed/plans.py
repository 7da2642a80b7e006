"""Plans: the edges of a figure paired at its points, so that they make lines that never cross."""

from nevercrossed.errors import (
    InvalidDirection, InvalidFigure, InvalidPlan, InvalidPoint, InvalidPoints, InvalidTurns,
)
from nevercrossed.figures import Figure, forks_of, held_by, is_crossing, letters_of
from nevercrossed.grid import DIRECTIONS, PARTNERS, SIDE, STRIDES
from nevercrossed.words import is_direction, is_point

OTHER_WORDS = {"ru": "rd", "rd": "ru"}


class Plan:
    """A plan of a figure: a word at each point of degree 3 and 4. It never changes."""

    def __init__(self, figure, turns):
        if not isinstance(figure, Figure):
            raise InvalidFigure(figure)
        forks = forks_of(figure)
        if not _are_turns(turns, forks):
            raise InvalidTurns(turns)
        self.figure = figure
        self._turns = {point: turns[point] for point in forks}
        # Traced when they are asked for first.
        self._lines = None

    def turns(self):
        """Return a new dict from the points of degree 3 and 4 to their words."""
        return {point: word for point, word in self._turns.items()}

    def partner(self, point, direction):
        """Return the direction of the edge with which an edge at a point is paired, or None if it ends there."""
        ways = self.figure.directions(point)
        if ways == "":
            raise InvalidPoint(point)
        if not _is_way(direction, ways):
            raise InvalidDirection(direction)
        paired = PARTNERS[ways + self._turns.get(point, "")][DIRECTIONS.index(direction)]
        return DIRECTIONS[paired] if paired >= 0 else None

    def turned(self, points):
        """Return the plan with the other word at each of some points of degree 4."""
        check_crossings(self.figure, points)
        turns = self.turns()
        for point in points:
            turns[point] = OTHER_WORDS[turns[point]]
        return Plan(self.figure, turns)

    def ended(self, point, direction):
        """Return the plan in which the edge in a direction ends at a point of degree 3."""
        ways = forks_of(self.figure).get(point, "") if is_point(point) else ""
        if len(ways) != 3:
            raise InvalidPoint(point)
        if not _is_way(direction, ways):
            raise InvalidDirection(direction)
        turns = self.turns()
        turns[point] = direction
        return Plan(self.figure, turns)

    def lines(self):
        """Return the tuple of the lines as walks, each in its least way of writing, ascending."""
        if self._lines is None:
            self._lines = _lines_of(self)
        return self._lines

    def __len__(self):
        return len(self._turns)

    def __contains__(self, point):
        return is_point(point) and point in self._turns

    def __getitem__(self, point):
        if not is_point(point) or point not in self._turns:
            raise InvalidPoint(point)
        return self._turns[point]

    def __iter__(self):
        raise TypeError("a plan is not iterated over")

    def __eq__(self, other):
        return isinstance(other, Plan) and self.figure == other.figure and self._turns == other._turns


def check_plan(value):
    """Raise InvalidPlan if any value is not a Plan."""
    if not isinstance(value, Plan):
        raise InvalidPlan(value)


def check_crossings(figure, value):
    """Raise InvalidPoints if any value is not a list of different points of degree 4 of a figure."""
    if not isinstance(value, (list, tuple)) or not all([is_crossing(figure, point) for point in value]):
        raise InvalidPoints(value)
    if len(set(value)) != len(value):
        raise InvalidPoints(value)


def partners_of(plan):
    """Return a new dict from the number of each point to how the edges there are paired, as PARTNERS writes it."""
    letters = letters_of(plan.figure)
    partners = {number: PARTNERS.get(ways) for number, ways in letters.items()}
    for point, word in plan._turns.items():
        x, y = point
        number = SIDE * x + y
        partners[number] = PARTNERS[letters[number] + word]
    return partners


def _are_turns(value, forks):
    if not isinstance(value, dict) or len(value) != len(forks):
        return False
    for point in value:
        if not is_point(point) or point not in forks or not _is_word(value[point], forks[point]):
            return False
    return True


def _is_word(value, ways):
    return value in ("ru", "rd") if len(ways) == 4 else _is_way(value, ways)


def _is_way(value, ways):
    return is_direction(value) and value in ways


def _lines_of(plan):
    letters = letters_of(plan.figure)
    partners = partners_of(plan)
    # The upright edges that are on a line already, by the number of the lower end: each closed line has some.
    passed = {}
    found = _lines_with_ends(letters, plan._turns, partners, passed)
    for number in held_by(plan.figure):
        if number % 2 == 0 and number // 2 not in passed:
            # The first edge of a closed line that is met goes up from the least point of the line.
            found.append(_traced(number // 2, 1, partners, passed))
    return tuple(sorted([_walk_of(line) for line in found]))


def _walk_of(line):
    return tuple([divmod(number, SIDE) for number in line])


def _lines_with_ends(letters, turns, partners, passed):
    found = []
    reached = {}
    for number, ways in letters.items():
        # From the lesser end on: the other one is reached before its turn comes.
        if len(ways) % 2 == 1 and number not in reached:
            ending = ways if len(ways) == 1 else turns[divmod(number, SIDE)]
            line = _traced(number, DIRECTIONS.index(ending), partners, passed)
            reached[line[-1]] = True
            found.append(line)
    return found


def _traced(start, direction, partners, passed):
    """Return the numbers of the points of the line that leaves a point in a direction, and mark its upright edges."""
    numbers = [start]
    at = start
    way = direction
    while True:
        if way == 1:
            passed[at] = True
        elif way == 3:
            passed[at - 1] = True
        at += STRIDES[way]
        numbers.append(at)
        # Behind a step in the direction `way`, the edge of the step is at the place `way - 2`, from the right or left.
        way = partners[at][way - 2]
        if way < 0 or (at == start and way == direction):
            return numbers
