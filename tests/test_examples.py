"""The examples of the document, word for word."""

import doctest
import unittest

from nevercrossed import (
    books, cells, consoles, counting, drawing, fewest, figures, plans, prices, regions, rounds, spreads, texts, ways,
    wishes, words,
)

EXAMPLES = {
    "[12]": r'''
    >>> [beside((0, 4), "u"), beside((0, 4), "l"), direction_between((3, 3), (2, 3)), edge_between((3, 3), (2, 3)), opposite("d")]
    [(0, 5), None, 'l', ((2, 3), (3, 3)), 'u']
''',
    "[24]": r'''
    >>> square = Figure([((0, 0), (1, 0)), ((0, 0), (0, 1)), ((0, 1), (1, 1)), ((1, 0), (1, 1))])
    >>> both = square | square.shifted(1, 1)
    >>> [len(both), both.directions((1, 1)), both.directions((2, 1)), len(both ^ square), both.odd_points()]
    [8, 'ruld', 'ul', 4, ()]
''',
    "[33]": r'''
    >>> both = read_picture("  +-+\n  | |\n+-+-+\n| |\n+-+")
    >>> [len(both), both.points()[3], walk_text(((0, 0), (1, 0), (1, 1))), read_walk("2,1 ulld")]
    [8, (1, 1), '0,0 ru', ((2, 1), (2, 2), (1, 2), (0, 2), (0, 1))]
''',
    "[45]": r'''
    >>> both = read_picture("  +-+\n  | |\n+-+-+\n| |\n+-+")
    >>> one, two = Plan(both, {(1, 1): "rd"}), Plan(both, {(1, 1): "ru"})
    >>> [len(one.lines()), two.lines()[0], one.turned([(1, 1)]) == two, one.partner((1, 1), "l")]
    [1, ((0, 0), (0, 1), (1, 1), (1, 0), (0, 0)), True, 'u']
''',
    "[53]": r'''
    >>> house = read_picture("+-+\n| |\n+-+\n| |\n+ +")
    >>> [len(house), fewest(house), len(best_plan(house).lines()), division_fault(house, [((0, 0), (0, 1), (0, 2))])]
    [6, 2, 2, 1]
''',
    "[62]": r'''
    >>> [len(border([(0, 0), (1, 1)])), dark_cells(read_picture("+-+-+\n|   |\n+-+-+"))]
    [8, ((0, 0), (1, 0))]
''',
    "[73]": r'''
    >>> regions = Regions(border([(0, 0), (1, 1)]))
    >>> [regions.dark, len(regions.light), regions.between("light", (1, 1)), regions.joining((1, 1))]
    [(((0, 0),), ((1, 1),)), 1, (0, 0), 'rd']
''',
    "[83]": r'''
    >>> two = Plan(border([(0, 0), (1, 1)]), {(1, 1): "ru"})
    >>> [round_numbers(two), why_not(two), shows_not(two, ("dark", (0,), ((1, 1),))), mended(two)]
    [(0, 1), ('light', (0,), ((1, 1),)), False, ((1, 1),)]
''',
    "[93]": r'''
    >>> ring = border([(1, 0), (2, 1), (1, 2), (0, 1)])
    >>> [count(ring), count(ring, color="light"), number_of(nth_plan(ring, 2)), counts_by_lines(ring) == {1: 4, 2: 7, 3: 4, 4: 1}]
    [4, 4, 2, True]
''',
    "[102]": r'''
    >>> chain = border([(0, 0), (1, 1), (2, 0)])
    >>> line_numbers(Plan(chain, {(1, 1): "ru", (2, 1): "ru"}), [(1, 1), (2, 1), (2, 1)])
    (2, 1, 2, 1)
''',
    "[112]": r'''
    >>> both = border([(0, 0), (1, 1)])
    >>> [wished(both, {}).turns(), wished(both, {(1, 1): "ru"}), shows_none(both, {}, ("light", (0,), ((1, 1),)))]
    [{(1, 1): 'rd'}, ('light', (0,), ((1, 1),)), False]
''',
    "[114]": r'''
    >>> drawn(Plan(read_picture("+-+\n  |\n  +"), {}))
    (((2, 8), (6, 8), (8, 6), (8, 2)),)
    >>> read_drawn(drawn(Plan(border([(0, 0)]), {}))).figure == border([(0, 0)])
    True
''',
    "[123]": r'''
    >>> book = Book()
    >>> book.together([("put", ((0, 0), (1, 0), (1, 1), (0, 1), (0, 0))), ("put", ((1, 1), (2, 1), (2, 2), (1, 2), (1, 1))), ("wish", (1, 1), "ru")])
    >>> [book.changes, book.wishes(), book.answer()]
    [1, {(1, 1): 'ru'}, ('light', (0,), ((1, 1),))]
''',
    "[132]": r'''
    >>> console = Console(Book())
    >>> [console("put 0 0 ruld"), console("put 1 1 ruld"), console("show"), console("count"), console("answer")]
    ['ok', 'ok', '  +-+/  | |/+-+-+/| |/+-+', '1', 'line 0,0 ururdldl']
    >>> [console("wish 1 1 ru"), console("answer"), console("wish 0 0 ru"), console("undo"), console("plan 0")]
    ['ok', 'round light 1,1', 'error InvalidPoint', 'ok', '0,0 ururdldl']
''',
    "[143]": r'''
    >>> ring = border([(1, 0), (2, 1), (1, 2), (0, 1)])
    >>> prices = {(1, 1): (0, 1), (1, 2): (5, 0), (2, 1): (3, 0), (2, 2): (0, 2)}
    >>> plan = cheapest(ring, prices)
    >>> [price_of(plan, prices), plan.turns()[(2, 1)], cheaper(plan, prices)]
    [1, 'rd', None]
''',
    "[154]": r'''
    >>> ring = border([(1, 0), (2, 1), (1, 2), (0, 1)])
    >>> [spread_bound(ring, [], 2), spread_bound(ring, spread_paper(ring, 1), 1), spread_bound(ring, [(1, 1)], 3, color="light")]
    [4, 3, 6]
    >>> [len(spread(ring, 2)), opposite(ring)[0], fixed_words(ring), fixed_words(border([(0, 0), (1, 1)]))]
    [2, 'light', {}, {(1, 1): 'rd'}]
''',
}
# All names of the package, as if each example began by importing those that it needs.
NAMES = {}
for module in (
    words, figures, texts, plans, fewest, cells, regions, rounds, counting, ways, wishes, drawing, books, consoles,
    prices, spreads,
):
    NAMES.update({name: thing for name, thing in vars(module).items() if not name.startswith("_")})
# Two functions have this name: only the first example means that of words.py.
FIRST_NAMES = {**NAMES, "opposite": words.opposite}


class TestExamples(unittest.TestCase):
    def test_examples(self):
        for place, text in EXAMPLES.items():
            with self.subTest(place):
                told = []
                names = dict(FIRST_NAMES if place == "[12]" else NAMES)
                example = doctest.DocTestParser().get_doctest(text, names, place, None, None)
                result = doctest.DocTestRunner(verbose=False).run(example, out=told.append)
                self.assertEqual(result.failed, 0, "".join(told))
                self.assertEqual(result.attempted, text.count(">>>"))
