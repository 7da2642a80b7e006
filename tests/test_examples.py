"""The examples of the document, word for word."""

import doctest
import unittest

from nevercrossed import cells, counting, fewest, figures, plans, regions, rounds, texts, words

EXAMPLES = {
    "[12]": r'''
    >>> [beside((0, 4), "u"), beside((0, 4), "l"), direction_between((3, 3), (2, 3)), edge_between((3, 3), (2, 3)), opposite("d")]
    [(0, 5), None, 'l', ((2, 3), (3, 3)), 'u']
''',
    "[24]": r'''
    >>> square = Figure([((0, 0), (1, 0)), ((0, 0), (0, 1)), ((0, 1), (1, 1)), ((1, 0), (1, 1))])
    >>> both = square | square.shifted(1, 1)
    >>> [len(both), both.directions((1, 1)), both.directions((2, 1)), len(both ^ square), both.odd_points()]
    [8, 'ruld', 'ul', 4, ()]
''',
    "[33]": r'''
    >>> both = read_picture("  +-+\n  | |\n+-+-+\n| |\n+-+")
    >>> [len(both), both.points()[3], walk_text(((0, 0), (1, 0), (1, 1))), read_walk("2,1 ulld")]
    [8, (1, 1), '0,0 ru', ((2, 1), (2, 2), (1, 2), (0, 2), (0, 1))]
''',
    "[45]": r'''
    >>> both = read_picture("  +-+\n  | |\n+-+-+\n| |\n+-+")
    >>> one, two = Plan(both, {(1, 1): "rd"}), Plan(both, {(1, 1): "ru"})
    >>> [len(one.lines()), two.lines()[0], one.turned([(1, 1)]) == two, one.partner((1, 1), "l")]
    [1, ((0, 0), (0, 1), (1, 1), (1, 0), (0, 0)), True, 'u']
''',
    "[53]": r'''
    >>> house = read_picture("+-+\n| |\n+-+\n| |\n+ +")
    >>> [len(house), fewest(house), len(best_plan(house).lines()), division_fault(house, [((0, 0), (0, 1), (0, 2))])]
    [6, 2, 2, 1]
''',
    "[62]": r'''
    >>> [len(border([(0, 0), (1, 1)])), dark_cells(read_picture("+-+-+\n|   |\n+-+-+"))]
    [8, ((0, 0), (1, 0))]
''',
    "[73]": r'''
    >>> regions = Regions(border([(0, 0), (1, 1)]))
    >>> [regions.dark, len(regions.light), regions.between("light", (1, 1)), regions.joining((1, 1))]
    [(((0, 0),), ((1, 1),)), 1, (0, 0), 'rd']
''',
    "[83]": r'''
    >>> two = Plan(border([(0, 0), (1, 1)]), {(1, 1): "ru"})
    >>> [round_numbers(two), why_not(two), shows_not(two, ("dark", (0,), ((1, 1),))), mended(two)]
    [(0, 1), ('light', (0,), ((1, 1),)), False, ((1, 1),)]
''',
    "[93]": r'''
    >>> ring = border([(1, 0), (2, 1), (1, 2), (0, 1)])
    >>> [count(ring), count(ring, color="light"), number_of(nth_plan(ring, 2)), counts_by_lines(ring) == {1: 4, 2: 7, 3: 4, 4: 1}]
    [4, 4, 2, True]
''',
}
# All names of the package, as if each example began by importing those that it needs.
NAMES = {}
for module in (words, figures, texts, plans, fewest, cells, regions, rounds, counting):
    NAMES.update({name: thing for name, thing in vars(module).items() if not name.startswith("_")})


class TestExamples(unittest.TestCase):
    def test_examples(self):
        for place, text in EXAMPLES.items():
            with self.subTest(place):
                told = []
                example = doctest.DocTestParser().get_doctest(text, dict(NAMES), place, None, None)
                result = doctest.DocTestRunner(verbose=False).run(example, out=told.append)
                self.assertEqual(result.failed, 0, "".join(told))
                self.assertEqual(result.attempted, text.count(">>>"))
