"""What the tests share: values of all kinds, and checks of what is raised."""

import unittest

from nevercrossed.cells import border
from nevercrossed.errors import InvalidPoint
from nevercrossed.figures import Figure
from nevercrossed.plans import Plan
from nevercrossed.regions import Regions


def any_values(others=True):
    """Return values of all the kinds that a parameter for any value accepts.

    None of them is a point, a direction, a color, a list of edges or a text of a walk. The tuple of two points is a
    walk and a list of cells, as is the list of a point; they are left out if `others` is False.
    """
    edge = ((0, 0), (1, 0))
    values = [
        None, True, False,
        0, 1, 2, 30, 31, -1, 10 ** 30 - 1, -(10 ** 30 - 1),
        "", "a", "R", "ru", "ruld", "x" * 500, "two\nrows", "(0, 0)", "0,0",
        [[0, 0], [1, 0]], [edge, None], [edge, 3], [(0, 0)], [None], [[]], [[[[1]]]], [True, "r"],
        (None,), ("r",), (0,), (0, 0, 0), (True, 0), (0, False), (None, 0), ("0", "0"), ([], {}), ([0], [0]),
        ((((1,),),),), edge, (edge,) * 3 + (0,),
        {}, {"r": 1}, {0: 0, 1: 0}, {(0, 0): (1, 0)}, {edge: True}, {None: {1: [2, (3,)]}},
        Figure(), Figure([edge]), InvalidPoint((0, 0)), Plan(Figure(), {}), Plan(Figure([edge]), {}),
        Regions(border([(0, 0)])),
    ]
    return values if others else [value for value in values if value not in (edge, [(0, 0)])]


class Case(unittest.TestCase):
    """A test case that knows how the exceptions of the package are checked."""

    def caught(self, error, action, *arguments, **named):
        """Return the exception of just this class that the action raises."""
        with self.assertRaises(error, msg=repr(arguments)) as context:
            action(*arguments, **named)
        self.assertIs(type(context.exception), error)
        return context.exception

    def raises_it(self, error, value, action, *arguments, **named):
        """Check that the exception holds the very object."""
        self.assertIs(self.caught(error, action, *arguments, **named).value, value)

    def raises_like(self, error, value, action, *arguments, **named):
        """Check that the exception holds an equal object of the same class."""
        found = self.caught(error, action, *arguments, **named).value
        self.assertIs(type(found), type(value))
        self.assertEqual(found, value)
