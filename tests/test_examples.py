"""The examples of the document, word for word."""

import doctest
import unittest

from nevercrossed.figures import Figure
from nevercrossed.words import beside, direction_between, edge_between, opposite

EXAMPLES = {
    "[12]": r'''
    >>> [beside((0, 4), "u"), beside((0, 4), "l"), direction_between((3, 3), (2, 3)), edge_between((3, 3), (2, 3)), opposite("d")]
    [(0, 5), None, 'l', ((2, 3), (3, 3)), 'u']
''',
    "[24]": r'''
    >>> square = Figure([((0, 0), (1, 0)), ((0, 0), (0, 1)), ((0, 1), (1, 1)), ((1, 0), (1, 1))])
    >>> both = square | square.shifted(1, 1)
    >>> [len(both), both.directions((1, 1)), both.directions((2, 1)), len(both ^ square), both.odd_points()]
    [8, 'ruld', 'ul', 4, ()]
''',
}
NAMES = {
    "Figure": Figure, "beside": beside, "direction_between": direction_between, "edge_between": edge_between,
    "opposite": opposite,
}


class TestExamples(unittest.TestCase):
    def test_examples(self):
        for place, text in EXAMPLES.items():
            with self.subTest(place):
                told = []
                example = doctest.DocTestParser().get_doctest(text, dict(NAMES), place, None, None)
                result = doctest.DocTestRunner(verbose=False).run(example, out=told.append)
                self.assertEqual(result.failed, 0, "".join(told))
                self.assertEqual(result.attempted, text.count(">>>"))
