"""The exceptions [8]."""

import unittest

from nevercrossed import errors
from nevercrossed.errors import InvalidEdges, NevercrossedError
from tests.helper import any_values

NAMES = """
    InvalidNumber InvalidDirection InvalidPoint InvalidPoints InvalidEdge InvalidEdges InvalidWalk InvalidWalks
    InvalidFigure InvalidTurns InvalidPlan InvalidCells InvalidColor InvalidWishes InvalidPrices InvalidPaths
    InvalidDeed InvalidDeeds InvalidLine BadText TooLarge BeyondPaper NotEven NotOnePiece NotOneLine UnlikeFigures
    NothingToUndo
""".split()


class TestErrors(unittest.TestCase):
    def test_base_class(self):
        self.assertEqual(NevercrossedError.__bases__, (ValueError,))

    def test_there_are_just_these_classes(self):
        self.assertEqual(len(NAMES), 27)
        found = [name for name, thing in vars(errors).items() if isinstance(thing, type)]
        self.assertEqual(sorted(found), sorted(NAMES + ["NevercrossedError"]))

    def test_each_is_a_direct_subclass(self):
        for name in NAMES:
            with self.subTest(name):
                error = getattr(errors, name)
                self.assertEqual(error.__name__, name)
                self.assertEqual(error.__bases__, (NevercrossedError,))
                self.assertEqual(error.__mro__[1:3], (NevercrossedError, ValueError))

    def test_each_is_defined_in_errors(self):
        for name in NAMES + ["NevercrossedError"]:
            with self.subTest(name):
                self.assertEqual(getattr(errors, name).__module__, "nevercrossed.errors")

    def test_value_is_the_very_object(self):
        for name in NAMES + ["NevercrossedError"]:
            error = getattr(errors, name)
            for value in any_values():
                with self.subTest(name=name, value=value):
                    self.assertIs(error(value).value, value)
                    self.assertIs(error(value=value).value, value)

    def test_takes_just_one_argument(self):
        for name in NAMES + ["NevercrossedError"]:
            error = getattr(errors, name)
            self.assertRaises(TypeError, error)
            self.assertRaises(TypeError, error, 1, 2)

    def test_a_list_that_is_changed_later(self):
        for name in NAMES:
            with self.subTest(name):
                held = [1, [2]]
                error = getattr(errors, name)(held)
                held.append(3)
                held[1].append(4)
                self.assertIs(error.value, held)
                self.assertEqual(error.value, [1, [2, 4], 3])

    def test_raised_and_caught(self):
        for name in NAMES:
            error = getattr(errors, name)
            held = ["held"]
            for wider in (error, NevercrossedError, ValueError):
                with self.subTest(name=name, wider=wider.__name__):
                    try:
                        raise error(held)
                    except wider as found:
                        self.assertIs(type(found), error)
                        self.assertIs(found.value, held)

    def test_none_is_caught_as_another(self):
        for name in NAMES:
            others = tuple(getattr(errors, other) for other in NAMES if other != name)
            self.assertFalse(issubclass(getattr(errors, name), others))

    def test_two_exceptions_keep_apart(self):
        first, second = InvalidEdges([1]), InvalidEdges([2])
        self.assertEqual([first.value, second.value], [[1], [2]])
