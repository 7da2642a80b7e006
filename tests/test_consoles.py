"""Consoles [131] and [132]."""

import random

from nevercrossed.books import Book
from nevercrossed.cells import border
from nevercrossed.consoles import Console
from nevercrossed.counting import count, nth_plan
from nevercrossed.errors import InvalidLine
from nevercrossed.fewest import fewest
from nevercrossed.figures import Figure
from nevercrossed.plans import Plan
from nevercrossed.texts import picture, read_walk, walk_text
from tests.helper import Case, any_values
from tests.samples import BOTH, RING, SQUARE, any_figures, checkered, single_figures
from tests.test_books import book_of, state


def both():
    """Return a console of a new book with two squares that touch."""
    return Console(book_of(BOTH))


class TestCommands(Case):
    def test_put_and_rub(self):
        book = Book()
        console = Console(book)
        self.assertEqual([console("put 0 0 ruld"), console("put 1 1 ruld")], ["ok", "ok"])
        self.assertEqual(state(book), (BOTH, 2, {}))
        self.assertEqual([console("rub 1 1 ruld"), console("rub 9 9 u")], ["ok", "ok"])
        self.assertEqual(state(book), (SQUARE, 4, {}))
        self.assertEqual(console(line="put 29 30 r"), "ok")
        self.assertIn(((29, 30), (30, 30)), book.figure)

    def test_wish(self):
        book = book_of(BOTH)
        console = Console(book=book)
        self.assertEqual(console("wish 1 1 ru"), "ok")
        self.assertEqual(book.wishes(), {(1, 1): "ru"})
        self.assertEqual(console("wish 1 1 rd"), "ok")
        self.assertEqual(book.wishes(), {(1, 1): "rd"})
        self.assertEqual([console("wish 1 1 -"), console("wish 1 1 -")], ["ok", "ok"])
        self.assertEqual([book.wishes(), book.changes], [{}, 5])

    def test_undo(self):
        book = Book()
        console = Console(book)
        self.assertEqual(console("undo"), "error NothingToUndo")
        console("put 0 0 ruld")
        console("put 1 1 ruld")
        self.assertEqual([console("undo"), book.figure], ["ok", SQUARE])
        self.assertEqual([console("undo"), book.figure], ["ok", Figure()])
        self.assertEqual([console("undo"), book.changes], ["error NothingToUndo", 0])

    def test_show(self):
        self.assertEqual(Console(Book())("show"), "-")
        self.assertEqual(both()("show"), "  +-+/  | |/+-+-+/| |/+-+")
        self.assertEqual(Console(book_of(Figure([((2, 0), (3, 0))])))("show"), "    +-+")
        self.assertEqual(Console(book_of(Figure([((0, 1), (1, 1))])))("show"), "+-+//")
        for figure in any_figures(30):
            self.assertEqual(Console(book_of(figure))("show"), picture(figure).replace("\n", "/") or "-")

    def test_odd(self):
        self.assertEqual([Console(Book())("odd"), both()("odd")], ["-", "-"])
        self.assertEqual(Console(book_of(Figure([((29, 7), (30, 7))])))("odd"), "29,7 30,7")
        for figure in any_figures(30):
            expected = " ".join([str(x) + "," + str(y) for x, y in figure.odd_points()]) or "-"
            self.assertEqual(Console(book_of(figure))("odd"), expected)

    def test_fewest(self):
        self.assertEqual([Console(Book())("fewest"), both()("fewest")], ["0", "1"])
        for figure in any_figures(30):
            self.assertEqual(Console(book_of(figure))("fewest"), str(fewest(figure)))

    def test_count(self):
        self.assertEqual([both()("count"), Console(book_of(RING))("count")], ["1", "4"])
        large = checkered(9, 11)
        self.assertEqual(Console(book_of(large))("count"), str(count(large)))
        self.assertEqual(Console(Book())("count"), "error NotOnePiece")
        self.assertEqual(Console(book_of(Figure([((0, 0), (0, 1))])))("count"), "error NotEven")
        self.assertEqual(Console(book_of(checkered(10, 10)))("count"), "error TooLarge")

    def test_plan(self):
        console = Console(book_of(RING))
        for index in range(4):
            line = nth_plan(RING, index).lines()[0]
            self.assertEqual(console("plan " + str(index)), walk_text(line))
        for index in ("4", "5", "10", "9" * 30):
            self.assertEqual(console("plan " + index), "error InvalidNumber")
        large = checkered(9, 11)
        last = count(large) - 1
        console = Console(book_of(large))
        self.assertEqual(console("plan " + str(last)), walk_text(nth_plan(large, last).lines()[0]))
        self.assertEqual(console("plan " + str(last + 1)), "error InvalidNumber")
        self.assertEqual(Console(Book())("plan 0"), "error NotOnePiece")
        self.assertEqual(Console(book_of(Figure([((0, 0), (0, 1))])))("plan 0"), "error NotEven")
        self.assertEqual(Console(book_of(checkered(10, 10)))("plan 0"), "error TooLarge")

    def test_answer(self):
        console = both()
        self.assertEqual(console("answer"), "line 0,0 ururdldl")
        console("wish 1 1 ru")
        self.assertEqual(console("answer"), "round light 1,1")
        chance = random.Random(131)
        for figure in single_figures(30, 6) + [checkered(13, 13)]:
            book = book_of(figure)
            console = Console(book)
            self.assertEqual(console("answer"), "line " + walk_text(book.answer().lines()[0]))
            for x, y in [point for point in figure.points() if len(figure.directions(point)) == 4]:
                console(f"wish {x} {y} {chance.choice(('ru', 'rd', '-'))}")
            found = book.answer()
            if isinstance(found, Plan):
                expected = "line " + walk_text(found.lines()[0])
            else:
                expected = "round " + found[0] + "".join([f" {x},{y}" for x, y in found[2]])
            self.assertEqual(console("answer"), expected)
        self.assertEqual(Console(Book())("answer"), "error NotOnePiece")
        self.assertEqual(Console(book_of(Figure([((0, 0), (0, 1))])))("answer"), "error NotEven")

    def test_the_longest_line(self):
        around = "r" * 30 + "u" * 30 + "l" * 30 + "d" * 30
        console = Console(Book())
        self.assertEqual(console("put 0 0 " + around), "ok")
        self.assertEqual(console("plan 0"), "0,0 " + "u" * 30 + "r" * 30 + "d" * 30 + "l" * 30)
        # A comb whose border is one line of 400 edges.
        teeth = [(x, y) for x in range(0, 30, 2) for y in range(1, 16 if x == 0 else 12)]
        comb = border([(x, 0) for x in range(30)] + teeth)
        answer = Console(book_of(comb))("answer")
        self.assertEqual([len(comb), len(answer)], [400, len("line 0,0 ") + 400])
        self.assertEqual(read_walk(answer[5:]), Plan(comb, {}).lines()[0])

    def test_answers_are_strings_and_questions_change_nothing(self):
        for figure in any_figures(10) + [BOTH, RING]:
            book = book_of(figure)
            before = state(book)
            for line in ("show", "odd", "fewest", "count", "plan 0", "answer"):
                self.assertIs(type(Console(book)(line)), str)
            self.assertEqual(state(book), before)
            self.assertIs(book.figure, before[0])


class TestErrors(Case):
    def unchanged(self, console, book, line, answer):
        before = state(book)
        self.assertEqual(console(line), answer)
        self.assertEqual(state(book), before)
        self.assertIs(book.figure, before[0])

    def test_walks_that_leave_the_paper(self):
        book = book_of(BOTH)
        console = Console(book)
        for word in ("put", "rub"):
            for rest in (
                "0 0 l", "0 0 d", "30 0 r", "0 30 u", "30 30 lrr", "0 0 rlld", "31 0 l", "0 31 d", "999 999 r",
                "0 0 " + "r" * 31, "31 31 r", "0 999 u", "1 1 ruldddu",
            ):
                self.unchanged(console, book, f"{word} {rest}", "error InvalidWalk")
        self.assertEqual(console("put 0 0 " + "r" * 30), "ok")

    def test_wishes_elsewhere(self):
        book = book_of(BOTH)
        console = Console(book)
        for rest in ("0 0 ru", "0 0 -", "9 9 rd", "31 1 ru", "1 31 -", "999 999 ru"):
            self.unchanged(console, book, "wish " + rest, "error InvalidPoint")

    def test_too_many_edges(self):
        book = Book()
        console = Console(book)
        for y in range(13):
            console(f"put 0 {y} " + "r" * 30)
        self.unchanged(console, book, "put 0 20 rrrrrrrrrrr", "error TooLarge")
        self.assertEqual(console("put 0 20 rrrrrrrrrr"), "ok")
        self.unchanged(console, book, "put 0 30 r", "error TooLarge")

    def test_nothing_to_undo(self):
        book = Book()
        self.unchanged(Console(book), book, "undo", "error NothingToUndo")


class TestLines(Case):
    def refused(self, line):
        book = book_of(BOTH)
        book.wish((1, 1), "rd")
        before = state(book)
        self.raises_it(InvalidLine, line, Console(book), line)
        self.assertEqual(state(book), before)

    def test_forms_of_coordinates(self):
        for number in ("0", "7", "17", "30", "31", "123", "999"):
            self.assertIn(both()(f"put {number} 0 u"), ("ok", "error InvalidWalk"))
            self.assertIn(both()(f"rub 0 {number} r"), ("ok", "error InvalidWalk"))
            self.assertEqual(both()(f"wish {number} 0 ru"), "error InvalidPoint")
        wrong = ["00", "01", "007", "030", "1234", "1000", "9" * 30, "-1", "+1", "-0", "1.0", "1,", "x", "1_0", "0x1"]
        for number in wrong + [""]:
            for line in ("put {} 0 u", "put 0 {} u", "rub {} 0 u", "rub 0 {} u", "wish {} 1 ru", "wish 1 {} ru"):
                self.refused(line.replace("{}", number))

    def test_forms_of_numbers_of_plans(self):
        for number in ("1", "7", "1234", "9" * 30, "1" + "0" * 29):
            self.assertEqual(both()("plan " + number), "error InvalidNumber")
        self.assertEqual(both()("plan 0"), "0,0 ururdldl")
        for number in ("00", "007", "0" * 30, "1" * 31, "9" * 40, "1" + "0" * 30, "-1", "+0", "x", "", "0 0", "1e3"):
            self.refused("plan " + number)

    def test_digits_of_other_scripts(self):
        for line in ("plan \u0663", "plan 1\u0663", "wish \u0661 1 ru", "put 0 \uff10 r", "plan \u00b2"):
            self.refused(line)

    def test_words_left_out_added_and_exchanged(self):
        lines = ["put 0 0 ruld", "rub 0 0 r", "wish 1 1 ru", "wish 1 1 -", "undo", "show", "odd", "fewest", "count"]
        lines += ["plan 0", "answer"]
        for line in lines:
            words = line.split(" ")
            for at in range(len(words)):
                self.refused(" ".join(words[:at] + words[at + 1:]))
                self.refused(" ".join(words[:at] + ["x"] + words[at:]))
                self.refused(" ".join(words[:at] + ["0"] + words[at:]))
                self.refused(" ".join(words[:at] + [words[at].upper() + "X"] + words[at + 1:]))
                for other in range(at):
                    exchanged = list(words)
                    exchanged[at], exchanged[other] = words[other], words[at]
                    if exchanged != words:
                        self.refused(" ".join(exchanged))
            self.refused(line + " 0")
            self.refused(line + " r")
            self.refused(line + " " + line)

    def test_spaces_and_other_signs(self):
        for line in ("put 0 0 ruld", "rub 0 0 r", "wish 1 1 ru", "undo", "show", "plan 0", "answer"):
            changed = [" " + line, line + " ", line + "\n", "\n" + line, line.upper(), line.replace(" ", "  ", 1)]
            changed += [line.replace(" ", "\t"), line.replace(" ", "\n"), line.replace(" ", ","), line.replace(" ", "")]
            changed += [line + ".", line[:-1] + "?", line.title()]
            for other in changed:
                if other != line:
                    self.refused(other)

    def test_steps_and_words(self):
        for steps in ("", "R", "rx", "r r", "ruld.", "-", "ruldo", "0", "r0", " "):
            self.refused("put 0 0 " + steps)
            self.refused("rub 0 0 " + steps)
        for word in ("", "r", "ur", "dr", "ruld", "--", "None", "RU", "rurd", "0"):
            self.refused("wish 1 1 " + word)

    def test_no_commands(self):
        for line in ("", " ", "help", "Undo", "together", "wishes", "changes", "figure", "r", "0 0 r", "put", "ok"):
            self.refused(line)

    def test_other_values(self):
        for value in any_values() + [["undo"], ("show",), {"show": 1}, Console(Book())]:
            self.refused(value)


class TestBooks(Case):
    def test_the_very_book(self):
        book = Book()
        console = Console(book)
        book.put(((0, 0), (1, 0)))
        self.assertEqual(console("show"), "+-+")
        console("rub 0 0 r")
        self.assertEqual(book.figure, Figure())

    def test_two_consoles_of_one_book(self):
        book = Book()
        one, two = Console(book), Console(book)
        self.assertEqual([one("put 0 0 ruld"), two("put 1 1 ruld")], ["ok", "ok"])
        self.assertEqual(one("show"), two("show"))
        self.assertEqual([one("undo"), two("undo"), one("undo")], ["ok", "ok", "error NothingToUndo"])

    def test_two_books(self):
        one, two = Console(Book()), Console(Book())
        one("put 0 0 r")
        self.assertEqual([one("show"), two("show")], ["+-+", "-"])
