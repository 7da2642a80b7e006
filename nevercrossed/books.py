"""Books: a figure and wishes that change step by step, and back again."""

from nevercrossed.errors import InvalidDeed, InvalidDeeds, InvalidPoint, InvalidTurns, InvalidWalk, NothingToUndo
from nevercrossed.figures import Figure, figure_with, figure_without, is_crossing
from nevercrossed.wishes import wished
from nevercrossed.words import is_walk, step_number


class Book:
    """A figure, empty at first, and words wished at points of degree 4. Each change can be taken back."""

    def __init__(self):
        self.figure = Figure()
        self.changes = 0
        # Never modified: each change makes a new one.
        self._wishes = {}
        # The figures and the wishes before each change.
        self._past = []

    def wishes(self):
        """Return a new dict from points to wished words."""
        return {point: word for point, word in self._wishes.items()}

    def put(self, walk):
        """Add the edges of a walk to the figure."""
        self._execute([("put", walk)])

    def rub(self, walk):
        """Remove the edges of a walk from the figure."""
        self._execute([("rub", walk)])

    def wish(self, point, word):
        """Set the wish of a point of degree 4, or remove it if the word is None."""
        self._execute([("wish", point, word)])

    def together(self, deeds):
        """Execute a list of deeds as one change: all or none."""
        if not isinstance(deeds, (list, tuple)):
            raise InvalidDeeds(deeds)
        for item in deeds:
            if not _is_deed(item):
                raise InvalidDeed(item)
        self._execute(deeds)

    def undo(self):
        """Take the last change back that was not taken back yet."""
        if not self._past:
            raise NothingToUndo(self)
        self.figure, self._wishes = self._past.pop()
        self.changes = len(self._past)

    def answer(self):
        """Return a plan of one line with the wished words, or a round that shows that there is none."""
        return wished(self.figure, self._wishes)

    def _execute(self, deeds):
        """Execute deeds as one change. If one of them raises, the book is as before."""
        figure, wishes = self.figure, self._wishes
        for deed in deeds:
            action = ACTIONS[deed[0]]
            figure, wishes = action(figure, wishes, deed)
        self._past.append((self.figure, self._wishes))
        self.figure, self._wishes = figure, wishes
        self.changes = len(self._past)


def _put(figure, wishes, deed):
    return (figure_with(figure, _numbers_of(deed[1])), wishes)


def _rubbed(figure, wishes, deed):
    left = figure_without(figure, _numbers_of(deed[1]))
    return (left, {point: wishes[point] for point in wishes if is_crossing(left, point)})


def _wished_at(figure, wishes, deed):
    _, point, word = deed
    if not is_crossing(figure, point):
        raise InvalidPoint(point)
    if word is not None and word not in ("ru", "rd"):
        raise InvalidTurns(word)
    changed = {known: wishes[known] for known in wishes if known != point}
    if word is not None:
        changed[point] = word
    return (figure, changed)


# Each gives the figure and the wishes after a deed.
ACTIONS = {"put": _put, "rub": _rubbed, "wish": _wished_at}
# How many items the tuple of a deed has.
LENGTHS = {"put": 2, "rub": 2, "wish": 3}


def _is_deed(value):
    if not isinstance(value, tuple) or not value or not isinstance(value[0], str):
        return False
    return len(value) == LENGTHS.get(value[0], 0)


def _numbers_of(walk):
    if not is_walk(walk):
        raise InvalidWalk(walk)
    return [step_number(point, other) for point, other in zip(walk[:-1], walk[1:])]
