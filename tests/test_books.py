"""Books [121] to [123]."""

import random

from nevercrossed.books import Book
from nevercrossed.errors import (
    InvalidDeed, InvalidDeeds, InvalidPoint, InvalidTurns, InvalidWalk, NotEven, NotOnePiece, NothingToUndo, TooLarge,
)
from nevercrossed.figures import Figure
from nevercrossed.plans import Plan
from nevercrossed.rounds import is_round
from nevercrossed.wishes import wished
from nevercrossed.words import is_walk
from tests.helper import Case, any_values
from tests.samples import BOTH, RING, SQUARE, WITHIN, crossings_of, edges_of, single_figures, stepped

ROUND_ONE = ((0, 0), (1, 0), (1, 1), (0, 1), (0, 0))
ROUND_TWO = ((1, 1), (2, 1), (2, 2), (1, 2), (1, 1))
PUT_BOTH = [("put", ROUND_ONE), ("put", ROUND_TWO)]


def book_of(figure):
    """Return a book with a figure, in one change."""
    book = Book()
    book.together([("put", edge) for edge in figure.edges])
    return book


def state(book):
    return (book.figure, book.changes, book.wishes())


def any_walk(chance, most):
    """Return a walk in a corner of the paper."""
    walk = [(chance.randint(0, 4), chance.randint(0, 4))]
    for _ in range(chance.randint(1, most)):
        ways = [stepped(walk[-1], way) for way in "ruld"]
        walk.append(chance.choice([point for point in ways if 0 <= min(point) and max(point) <= 4]))
    return tuple(walk)


class TestPutAndRub(Case):
    def test_a_new_book(self):
        book = Book()
        self.assertEqual([book.figure, book.changes, book.wishes()], [Figure(), 0, {}])
        self.assertEqual([type(book.figure), type(book.changes), type(book.wishes())], [Figure, int, dict])
        self.assertIsNot(book.figure, None)
        self.assertEqual(set(vars(book)) & {"figure", "changes"}, {"figure", "changes"})

    def test_put(self):
        book = Book()
        self.assertIsNone(book.put(ROUND_ONE))
        self.assertEqual(state(book), (SQUARE, 1, {}))
        self.assertIsNone(book.put(walk=ROUND_TWO))
        self.assertEqual(state(book), (BOTH, 2, {}))
        # The edges are there already.
        book.put(((1, 0), (0, 0), (1, 0), (0, 0)))
        self.assertEqual(state(book), (BOTH, 3, {}))

    def test_rub(self):
        book = book_of(BOTH)
        self.assertIsNone(book.rub(ROUND_TWO))
        self.assertEqual(state(book), (SQUARE, 2, {}))
        self.assertIsNone(book.rub(walk=((9, 9), (9, 8))))
        self.assertEqual(state(book), (SQUARE, 3, {}))
        book.rub(((0, 1), (0, 0), (0, 1), (0, 2)))
        self.assertEqual(book.figure, SQUARE - Figure([((0, 0), (0, 1))]))
        book.rub(ROUND_ONE)
        self.assertEqual(state(book), (Figure(), 5, {}))

    def test_all_that_is_put_and_rubbed(self):
        chance = random.Random(121)
        for _ in range(30):
            book, edges = Book(), set()
            for many in range(1, 20):
                walk = any_walk(chance, 12)
                if chance.random() < 0.6:
                    book.put(walk)
                    edges |= set(edges_of(walk))
                else:
                    book.rub(walk)
                    edges -= set(edges_of(walk))
                self.assertEqual([book.figure, book.changes], [Figure(list(edges)), many])

    def test_a_point_with_its_edges(self):
        book = Book()
        book.put(((1, 1), (1, 2)))
        book.put(((2, 1), (1, 1), (0, 1)))
        book.put(((1, 0), (1, 1)))
        self.assertEqual(book.figure.directions((1, 1)), "ruld")
        book.wish((1, 1), "ru")
        self.assertEqual(book.wishes(), {(1, 1): "ru"})

    def test_walks_of_any_number_of_points(self):
        there_and_back = tuple([(x, 0) for x in range(31)] + [(x, 0) for x in range(29, -1, -1)]) * 20
        walk = there_and_back[:1] + tuple(
            other for point, other in zip(there_and_back, there_and_back[1:]) if point != other
        )
        self.assertGreater(len(walk), 1000)
        self.assertTrue(is_walk(walk))
        book = Book()
        book.put(walk)
        self.assertEqual(len(book.figure), 30)
        book.rub(walk)
        self.assertEqual(len(book.figure), 0)

    def snake(self, edges):
        """Return a walk of so many different edges."""
        points = [(x if y % 2 == 0 else 30 - x, y) for y in range(31) for x in range(31)]
        return tuple(points[:edges + 1])

    def test_400_edges_and_more(self):
        for many in (401, 402, 500, 960):
            book = Book()
            self.raises_like(TooLarge, many, book.put, self.snake(many))
            self.assertEqual(state(book), (Figure(), 0, {}))
        book = Book()
        book.put(self.snake(400))
        before = state(book)
        self.assertEqual([len(book.figure), book.changes], [400, 1])
        book.put(self.snake(399))
        book.put(self.snake(400)[::-1])
        self.raises_like(TooLarge, 401, book.put, self.snake(401))
        self.raises_like(TooLarge, 402, book.put, self.snake(402)[395:])
        self.raises_like(TooLarge, 401, book.put, ((0, 0), (0, 1), (0, 0)))
        self.assertEqual(state(book), (before[0], 3, {}))
        # What is put at once with what is rubbed later counts.
        self.raises_like(TooLarge, 401, book.together, [("put", ((0, 0), (0, 1))), ("rub", self.snake(9))])
        book.together([("rub", ((0, 0), (1, 0))), ("put", ((0, 0), (0, 1)))])
        self.assertEqual([len(book.figure), book.changes], [400, 4])

    def test_not_a_walk(self):
        book = book_of(BOTH)
        book.wish((1, 1), "ru")
        before = state(book)
        walks = [((0, 0),), ((0, 0), (0, 0)), ((0, 0), (1, 1)), ((0, 0), (1, 0), (3, 0)), [(0, 0), (1, 0)]]
        walks += [((0, 0), (True, 0)), ((30, 0), (31, 0)), ((0, 0), (0, -1)), "0,0 r", ROUND_ONE + (None,)]
        for value in walks + [value for value in any_values() if not is_walk(value)]:
            self.raises_it(InvalidWalk, value, book.put, value)
            self.raises_it(InvalidWalk, value, book.rub, value)
        self.assertEqual(state(book), before)


class TestWish(Case):
    def test_set_exchanged_and_removed(self):
        book = book_of(BOTH)
        self.assertIsNone(book.wish((1, 1), "ru"))
        self.assertEqual(state(book), (BOTH, 2, {(1, 1): "ru"}))
        self.assertIsNone(book.wish(point=(1, 1), word="rd"))
        self.assertEqual(state(book), (BOTH, 3, {(1, 1): "rd"}))
        book.wish((1, 1), None)
        self.assertEqual(state(book), (BOTH, 4, {}))
        book.wish((1, 1), None)
        self.assertEqual(state(book), (BOTH, 5, {}))

    def test_several(self):
        book = book_of(RING)
        for point in crossings_of(RING):
            book.wish(point, "ru")
        book.wish((1, 2), "rd")
        book.wish((2, 1), None)
        self.assertEqual(book.wishes(), {(1, 1): "ru", (1, 2): "rd", (2, 2): "ru"})

    def test_wishes_is_new_each_time(self):
        book = book_of(BOTH)
        book.wish((1, 1), "ru")
        wishes = book.wishes()
        wishes[(1, 1)] = "rd"
        wishes[(5, 5)] = "ru"
        self.assertEqual(book.wishes(), {(1, 1): "ru"})
        book.wishes().clear()
        self.assertEqual(book.wishes(), {(1, 1): "ru"})

    def test_wishes_go_with_the_degree_4(self):
        for edge in [edge for edge in RING.edges if (1, 1) in edge]:
            book = book_of(RING)
            for point in crossings_of(RING):
                book.wish(point, "rd")
            book.rub(edge)
            left = set(crossings_of(RING)) - set(edge)
            self.assertEqual(book.wishes(), {point: "rd" for point in left})
            # It does not come back with the edge, but with what is taken back.
            book.put(edge)
            self.assertEqual(set(book.wishes()), left)
            book.undo()
            book.undo()
            self.assertEqual(set(book.wishes()), set(crossings_of(RING)))

    def test_wishes_elsewhere_stay(self):
        book = book_of(BOTH | BOTH.shifted(5, 5))
        book.wish((1, 1), "ru")
        book.wish((6, 6), "rd")
        book.put(((2, 2), (3, 2)))
        book.rub(((0, 0), (0, 1)))
        self.assertEqual(book.wishes(), {(1, 1): "ru", (6, 6): "rd"})
        book.rub(((6, 6), (6, 7)))
        self.assertEqual(book.wishes(), {(1, 1): "ru"})

    def test_not_a_point_of_degree_4(self):
        book = book_of(BOTH | Figure([((0, 1), (0, 2))]))
        before = state(book)
        self.assertEqual(book.figure.directions((0, 1)), "rud")
        for value in any_values() + [(0, 0), (0, 1), (0, 2), (9, 9), (1, 1, 1), [1, 1], (True, 1), (1, True)]:
            self.raises_it(InvalidPoint, value, book.wish, value, "ru")
            self.raises_it(InvalidPoint, value, book.wish, value, None)
            self.raises_it(InvalidPoint, value, book.wish, value, 7)
        self.assertEqual(state(book), before)
        self.raises_it(InvalidPoint, (1, 1), Book().wish, (1, 1), "ru")

    def test_not_a_word(self):
        book = book_of(BOTH)
        before = state(book)
        for value in any_values() + ["r", "ul", "RU", "dr", ["ru"], ("ru",), ("ru", "rd")]:
            if value is not None and value != "ru":
                self.raises_it(InvalidTurns, value, book.wish, (1, 1), value)
        self.assertEqual(state(book), before)


class TestUndo(Case):
    def test_each_kind_of_change(self):
        book = Book()
        states = []

        def change(action, *arguments):
            states.append(state(book))
            action(*arguments)
            self.assertEqual(book.changes, len(states))

        change(book.put, ROUND_ONE)
        change(book.put, ROUND_ONE)
        change(book.together, [("put", ROUND_TWO), ("wish", (1, 1), "ru")])
        change(book.wish, (1, 1), "rd")
        change(book.wish, (1, 1), "rd")
        change(book.rub, ((1, 1), (1, 2)))
        change(book.rub, ((1, 1), (1, 2)))
        change(book.together, [])
        change(book.put, ((1, 1), (1, 2)))
        change(book.wish, (1, 1), None)
        change(book.together, [("rub", ROUND_TWO), ("rub", ROUND_ONE)])
        for before in states[::-1]:
            self.assertIsNone(book.undo())
            self.assertEqual(state(book), before)
        self.raises_it(NothingToUndo, book, book.undo)

    def test_nothing_to_undo(self):
        book = Book()
        for _ in range(3):
            self.raises_it(NothingToUndo, book, book.undo)
            self.assertEqual(state(book), (Figure(), 0, {}))
        book.put(ROUND_ONE)
        book.undo()
        self.raises_it(NothingToUndo, book, book.undo)
        self.assertEqual(state(book), (Figure(), 0, {}))

    def test_what_raised_is_no_change(self):
        book = Book()
        self.caught(InvalidWalk, book.put, None)
        self.caught(InvalidPoint, book.wish, (1, 1), "ru")
        self.caught(InvalidDeeds, book.together, None)
        self.caught(InvalidDeed, book.together, [None])
        self.caught(InvalidWalk, book.together, [("put", ROUND_ONE), ("rub", 3)])
        self.assertEqual(book.changes, 0)
        self.raises_it(NothingToUndo, book, book.undo)

    def test_many(self):
        chance = random.Random(122)
        book = Book()
        states = []
        for _ in range(600):
            if states and chance.random() < 0.4:
                book.undo()
                self.assertEqual(state(book), states.pop())
                continue
            states.append(state(book))
            crossings = crossings_of(book.figure)
            if crossings and chance.random() < 0.5:
                book.wish(chance.choice(crossings), chance.choice(("ru", "rd", None)))
            elif chance.random() < 0.7:
                book.put(any_walk(chance, 30))
            else:
                book.rub(any_walk(chance, 8))
        self.assertGreater(len(states), 50)
        while states:
            book.undo()
            self.assertEqual(state(book), states.pop())
        self.raises_it(NothingToUndo, book, book.undo)

    def test_figures_and_plans_stay_as_they_were(self):
        book = book_of(BOTH)
        book.wish((1, 1), "rd")
        figure, plan, wishes = book.figure, book.answer(), book.wishes()
        edges, lines = figure.edges, plan.lines()
        book.rub(ROUND_TWO)
        book.put(((5, 5), (5, 6)))
        book.undo()
        book.undo()
        book.undo()
        self.assertEqual([figure.edges, plan.lines(), wishes], [edges, lines, {(1, 1): "rd"}])
        self.assertEqual([plan.figure, figure], [BOTH, BOTH])

    def test_two_books(self):
        book, other = Book(), Book()
        book.put(ROUND_ONE)
        other.put(ROUND_TWO)
        other.put(ROUND_ONE)
        book.undo()
        self.assertEqual([state(book), state(other)], [(Figure(), 0, {}), (BOTH, 2, {})])
        self.assertFalse(book == Book())


class TestTogether(Case):
    def test_one_change(self):
        book = Book()
        self.assertIsNone(book.together(deeds=PUT_BOTH + [("wish", (1, 1), "ru")]))
        self.assertEqual(state(book), (BOTH, 1, {(1, 1): "ru"}))
        book.together(tuple([("wish", (1, 1), None), ("rub", ROUND_TWO)]))
        self.assertEqual(state(book), (SQUARE, 2, {}))
        book.together([])
        book.together(())
        self.assertEqual(state(book), (SQUARE, 4, {}))
        for _ in range(3):
            book.undo()
        self.assertEqual(state(book), (BOTH, 1, {(1, 1): "ru"}))

    def test_deeds_after_each_other(self):
        book = Book()
        # The wish goes with the edge, and the edge comes back without it.
        edge = ((1, 1), (1, 2))
        book.together(PUT_BOTH + [("wish", (1, 1), "ru"), ("rub", edge), ("put", edge)])
        self.assertEqual(state(book), (BOTH, 1, {}))
        self.raises_it(InvalidPoint, (1, 1), book.together, [("rub", edge), ("wish", (1, 1), "ru"), ("put", edge)])
        book.together([("rub", edge), ("put", edge), ("wish", (1, 1), "rd")])
        self.assertEqual(state(book), (BOTH, 2, {(1, 1): "rd"}))

    def test_one_raises_at_each_place(self):
        good = PUT_BOTH + [("wish", (1, 1), "ru"), ("rub", ((0, 0), (0, 1))), ("wish", (1, 1), None)]
        point, word, walk = (7, 7), "up", ((0, 0), (2, 0))
        wrong = [
            (InvalidWalk, walk, ("put", walk)), (InvalidWalk, walk, ("rub", walk)),
            (InvalidPoint, point, ("wish", point, "ru")), (InvalidPoint, None, ("wish", None, None)),
        ]
        for at in range(len(good) + 1):
            for error, value, deed in wrong + ([(InvalidTurns, word, ("wish", (1, 1), word))] if at >= 2 else []):
                book = book_of(RING.shifted(8, 8))
                book.wish((9, 9), "rd")
                before = state(book)
                self.raises_it(error, value, book.together, good[:at] + [deed] + good[at:])
                self.assertEqual(state(book), before)
                book.undo()
                self.assertEqual(state(book)[1:], (1, {}))

    def test_the_first_one_that_raises(self):
        first, second = ((0, 0),), ((1, 1),)
        self.raises_it(InvalidWalk, first, Book().together, [("put", first), ("rub", second)])
        self.raises_it(InvalidWalk, second, Book().together, [("rub", second), ("put", first)])

    def test_not_a_list(self):
        book = Book()
        for value in any_values() + ["put", {("put", ROUND_ONE): True}]:
            if not isinstance(value, (list, tuple)):
                self.raises_it(InvalidDeeds, value, book.together, value)
        # A deed alone is a tuple, but its items are no deeds.
        self.raises_like(InvalidDeed, "put", book.together, ("put", ROUND_ONE))
        self.assertEqual(state(book), (Figure(), 0, {}))

    def test_items_that_are_no_deeds(self):
        wrong = [
            (), ("put",), ("put", ROUND_ONE, 0), ("rub",), ("rub", ROUND_ONE, None), ("wish",), ("wish", (1, 1)),
            ("wish", (1, 1), "ru", 0), ("undo",), ("undo", 0), ("together", []), ("together", PUT_BOTH), ("answer",),
            ["put", ROUND_ONE], ["wish", (1, 1), "ru"], ("Put", ROUND_ONE), (None, ROUND_ONE), (["put"], ROUND_ONE),
            ({}, ROUND_ONE), (("put",), ROUND_ONE), (RING, ROUND_ONE), (0, 1), (True, (1, 1), "ru"), "put", "wishes",
        ]
        book = book_of(SQUARE)
        raising = ("put", None)
        for item in wrong + any_values():
            # Ahead of deeds that raise and behind them: all items are checked before the first deed is executed.
            self.raises_it(InvalidDeed, item, book.together, [item])
            self.raises_it(InvalidDeed, item, book.together, [item, raising])
            self.raises_it(InvalidDeed, item, book.together, [raising, item])
            self.raises_it(InvalidDeed, item, book.together, (("put", ROUND_TWO), item, 5))
        self.assertEqual(state(book), (SQUARE, 1, {}))

    def test_only_words_and_lengths_are_checked_first(self):
        book = Book()
        for value in any_values():
            if not is_walk(value):
                self.raises_it(InvalidWalk, value, book.together, [("put", value)])
                self.raises_it(InvalidWalk, value, book.together, [("put", ROUND_ONE), ("rub", value)])
            self.raises_it(InvalidPoint, value, book.together, [("wish", value, value)])
        self.assertEqual(state(book), (Figure(), 0, {}))

    def test_what_is_changed_after_the_call(self):
        deeds = PUT_BOTH + [("wish", (1, 1), "ru")]
        book = Book()
        book.together(deeds)
        deeds[0] = ("rub", ROUND_ONE)
        deeds.clear()
        self.assertEqual(state(book), (BOTH, 1, {(1, 1): "ru"}))
        book.undo()
        self.assertEqual(state(book), (Figure(), 0, {}))


class TestAnswer(Case):
    def test_plans_and_rounds(self):
        book = book_of(BOTH)
        self.assertEqual(book.answer(), Plan(BOTH, {(1, 1): "rd"}))
        book.wish((1, 1), "ru")
        self.assertEqual(book.answer(), ("light", (0,), ((1, 1),)))
        book.wish((1, 1), "rd")
        self.assertEqual(book.answer(), Plan(BOTH, {(1, 1): "rd"}))
        self.assertEqual(book.changes, 3)

    def test_as_wished(self):
        chance = random.Random(123)
        for figure in single_figures(40, 6) + [WITHIN]:
            book = book_of(figure)
            for point in crossings_of(figure):
                if chance.random() < 0.5:
                    book.wish(point, chance.choice(("ru", "rd")))
            found = book.answer()
            self.assertEqual(found, wished(figure, book.wishes()))
            self.assertTrue(isinstance(found, Plan) or is_round(figure, found))

    def test_raises_as_wished(self):
        book = Book()
        self.raises_it(NotOnePiece, book.figure, book.answer)
        book.put(((3, 3), (3, 4), (4, 4)))
        self.raises_like(NotEven, (3, 3), book.answer)
        book.put(((4, 4), (4, 3), (3, 3)))
        self.assertEqual(book.answer(), Plan(book.figure, {}))
        book.put(ROUND_ONE)
        self.raises_it(NotOnePiece, book.figure, book.answer)
        self.assertEqual(book.changes, 3)
