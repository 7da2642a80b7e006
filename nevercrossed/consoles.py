"""Consoles: command lines for a book, and their answers in words."""

from nevercrossed.counting import count, nth_plan
from nevercrossed.errors import InvalidLine, NevercrossedError
from nevercrossed.fewest import fewest
from nevercrossed.plans import Plan
from nevercrossed.texts import picture, walk_text
from nevercrossed.words import STEPS

WISHED = {"ru": "ru", "rd": "rd", "-": None}
# The most digits of a coordinate, and of the number of a plan.
DIGITS = 3
MORE_DIGITS = 30
# The words of each command behind its name.
FORMS = {
    "put": ("X", "Y", "STEPS"), "rub": ("X", "Y", "STEPS"), "wish": ("X", "Y", "WORD"), "undo": (), "show": (),
    "odd": (), "fewest": (), "count": (), "plan": ("N",), "answer": (),
}


class Console:
    """Executes command lines on a book."""

    def __init__(self, book):
        self._book = book

    def __call__(self, line):
        words = _words_of(line)
        if words is None:
            raise InvalidLine(line)
        action = ANSWERS[words[0]]
        try:
            return action(self._book, words)
        except NevercrossedError as error:
            return "error " + error.name


def _put(book, words):
    book.put(_walk_of(words))
    return "ok"


def _rub(book, words):
    book.rub(_walk_of(words))
    return "ok"


def _wish(book, words):
    book.wish((int(words[1]), int(words[2])), WISHED[words[3]])
    return "ok"


def _undo(book, _):
    book.undo()
    return "ok"


def _show(book, _):
    return picture(book.figure).replace("\n", "/") or "-"


def _odd(book, _):
    return _listed(book.figure.odd_points()) or "-"


def _fewest(book, _):
    return str(fewest(book.figure))


def _count(book, _):
    return str(count(book.figure))


def _plan(book, words):
    return _line_text(nth_plan(book.figure, int(words[1])))


def _answer(book, _):
    found = book.answer()
    if isinstance(found, Plan):
        return "line " + _line_text(found)
    color, _, points = found
    return f"round {color} {_listed(points)}"


# Each executes a command on a book, given its words, and returns the answer.
ANSWERS = {
    "put": _put, "rub": _rub, "wish": _wish, "undo": _undo, "show": _show, "odd": _odd, "fewest": _fewest,
    "count": _count, "plan": _plan, "answer": _answer,
}


def _walk_of(words):
    """Return the walk of X, Y and STEPS; perhaps it begins or goes beyond the paper."""
    x, y = int(words[1]), int(words[2])
    walk = [(x, y)]
    for step in words[3]:
        step_x, step_y = STEPS[step]
        x, y = x + step_x, y + step_y
        walk.append((x, y))
    return tuple(walk)


def _line_text(plan):
    return walk_text(plan.lines()[0])


def _listed(points):
    return " ".join([f"{x},{y}" for x, y in points])


def _words_of(line):
    """Return the words of a command line, or None for any other value."""
    if not isinstance(line, str):
        return None
    words = line.split(" ")
    kinds = FORMS.get(words[0], None)
    if kinds is None or len(words) != len(kinds) + 1:
        return None
    return words if all([_is_word(word, kind) for word, kind in zip(words[1:], kinds)]) else None


def _is_word(word, kind):
    if kind == "STEPS":
        return word != "" and all([letter in STEPS for letter in word])
    if kind == "WORD":
        return word in WISHED
    return _is_number(word, MORE_DIGITS if kind == "N" else DIGITS)


def _is_number(word, most):
    if not 0 < len(word) <= most or not word.isascii() or not word.isdecimal():
        return False
    return word == "0" or word[0] != "0"
