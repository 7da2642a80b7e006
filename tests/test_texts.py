"""The texts [31] to [33]."""

import random

from nevercrossed.cells import border
from nevercrossed.errors import BadText, InvalidWalk, TooLarge
from nevercrossed.figures import Figure
from nevercrossed.texts import picture, read_picture, read_walk, walk_text
from tests.helper import Case, any_values
from tests.samples import ALL_EDGES, BOTH, SQUARE, any_figures, direction_of, even_figures, large_figures, stepped

BOTH_ROWS = ["  +-+", "  | |", "+-+-+", "| |", "+-+"]


def picture_by_hand(figure):
    """Return the picture, asked for sign by sign as the document defines it."""
    if not figure.edges:
        return ""
    rows = []
    for y in range(max(point[1] for point in figure.points()), -1, -1):
        points = "".join(
            ("+" if (x, y) in figure.points() else " ") + ("-" if ((x, y), (x + 1, y)) in figure.edges else " ")
            for x in range(31)
        )
        between = "".join("| " if ((x, y - 1), (x, y)) in figure.edges else "  " for x in range(31))
        rows += [points.rstrip(" "), between.rstrip(" ")]
    return "\n".join(rows[:-1])


def random_walk(count, seed):
    """Return a walk of so many points."""
    chance = random.Random(seed)
    walk = [(chance.randint(0, 30), chance.randint(0, 30))]
    while len(walk) < count:
        point = stepped(walk[-1], chance.choice("ruld"))
        if min(point) >= 0 and max(point) <= 30:
            walk.append(point)
    return tuple(walk)


class TestPicture(Case):
    def test_empty(self):
        self.assertEqual(picture(Figure()), "")
        self.assertEqual(read_picture(""), Figure())
        self.assertEqual(picture(figure=Figure()), "")

    def test_small(self):
        self.assertEqual(picture(SQUARE), "+-+\n| |\n+-+")
        self.assertEqual(picture(BOTH), "\n".join(BOTH_ROWS))
        self.assertEqual(picture(Figure([((0, 0), (1, 0))])), "+-+")
        self.assertEqual(picture(Figure([((0, 0), (0, 1))])), "+\n|\n+")
        self.assertEqual(picture(Figure([((2, 0), (3, 0))])), "    +-+")

    def test_empty_rows_below(self):
        self.assertEqual(picture(Figure([((0, 1), (1, 1))])), "+-+\n\n")
        self.assertEqual(picture(Figure([((1, 2), (1, 3))])), "  +\n  |\n  +\n\n\n\n")
        self.assertEqual(read_picture("+-+\n\n"), Figure([((0, 1), (1, 1))]))

    def test_at_the_rims_of_the_paper(self):
        top = Figure([((29, 30), (30, 30))])
        self.assertEqual(picture(top), " " * 58 + "+-+" + "\n" * 60)
        right = Figure([((30, 29), (30, 30))])
        self.assertEqual(picture(right), "\n".join([" " * 60 + sign for sign in "+|+"]) + "\n" * 58)
        for figure in (top, right, Figure([((29, 0), (30, 0))]), Figure([((0, 29), (0, 30))])):
            self.assertEqual(read_picture(picture(figure)), figure)

    def test_as_the_document_defines_it(self):
        for figure in any_figures() + even_figures() + large_figures():
            text = picture(figure)
            self.assertEqual(text, picture_by_hand(figure))
            self.assertEqual(read_picture(text), figure)
            self.assertEqual(read_picture(text=text), figure)

    def test_each_edge_of_the_paper(self):
        for edge in ALL_EDGES:
            figure = Figure([edge])
            self.assertEqual(read_picture(picture(figure)).edges, (edge,))

    def test_400_edges(self):
        figure = Figure(ALL_EDGES[:400])
        self.assertEqual(read_picture(picture(figure)), figure)
        lying = Figure([((x, y), (x + 1, y)) for x in range(29) for y in range(13)])
        self.assertEqual(read_picture(picture(lying)), lying)


class TestReadPicture(Case):
    def check(self, rows, row):
        self.raises_like(BadText, row, read_picture, "\n".join(rows))

    def changed(self, row, text):
        return BOTH_ROWS[:row - 1] + [text] + BOTH_ROWS[row:]

    def test_a_sign_too_many(self):
        self.check(self.changed(2, "| | |"), 1)
        self.check(self.changed(1, "+ +-+"), 1)
        self.check(self.changed(4, "| | +"), 4)
        self.check(self.changed(3, "+-+-+ +"), 3)
        self.check(["+"], 1)
        self.check(["", "", "+"], 2)

    def test_a_sign_too_few(self):
        self.check(self.changed(1, "  +-"), 1)
        self.check(self.changed(1, "    +"), 1)
        self.check(self.changed(3, "+- -+"), 3)
        self.check(self.changed(5, "+-"), 5)
        self.check(self.changed(5, ""), 5)

    def test_another_sign(self):
        for sign in "-|#x":
            self.check(self.changed(3, f"+-{sign}-+"), 3)
            self.check(self.changed(5, f"{sign}-+"), 5)
        self.check(self.changed(2, "  - |"), 2)
        self.check(self.changed(4, "+ |"), 4)
        self.check(self.changed(2, "  |#|"), 2)

    def test_signs_for_edges_at_other_places_are_no_edges(self):
        # In a row for points only odd places, in a row between only even ones.
        self.check(["+-+", "|||", "+-+"], 2)
        self.check(["+-+", "|-|", "+-+"], 2)
        self.check(["+-|", "| |", "+-+"], 1)
        self.check(["--"], 1)
        self.check(["-"], 1)

    def test_spaces(self):
        self.check([" "], 1)
        self.check(["", " "], 2)
        for place in range(1, 6):
            self.check(self.changed(place, BOTH_ROWS[place - 1] + " "), place)
            self.check(self.changed(place, BOTH_ROWS[place - 1] + " " * 60), place)
        # A row of the empty ones below.
        self.check(["+-+", " ", ""], 2)
        self.check(["+-+", "", " "], 3)

    def test_missing_rows(self):
        self.check(BOTH_ROWS[1:], 1)
        self.check(["+-+", "| |"], 1)
        self.check(["| |", "+-+"], 1)
        self.check(["+-+", ""], 1)

    def test_additional_rows(self):
        self.check([""] + BOTH_ROWS, 1)
        self.check(["", ""] + BOTH_ROWS, 1)
        self.check(["", ""], 2)
        self.check(["", "", ""], 2)
        self.check(["+-+", "| |", "+-+", ""], 1)

    def test_the_first_row_counts_from_the_top(self):
        self.check(["  +-+", "  | |", "+-+ x", "| |", "+-"], 3)
        self.check(["+-+ ", "| |x", "+-+"], 1)

    def test_beyond_the_paper(self):
        # The greatest x is 30, at the character 60.
        self.check([" " * 60 + "+-+"], 1)
        self.check([" " * 62 + "+", " " * 62 + "|", " " * 62 + "+"], 1)
        # The greatest y is 30, 61 rows up.
        self.check(["+", "|", "+"] + [""] * 60, 1)
        self.check(["+-+"] + [""] * 62, 1)
        self.check(["+-+"] + [""] * 61, 1)
        self.assertEqual(read_picture("+-+" + "\n" * 60).edges, (((0, 30), (1, 30)),))
        self.check([""] * 2000 + ["+-+"], 1)
        self.check(["-" * 4000], 1)
        self.check(["\n" * 3999], 2)

    def test_too_large_comes_first(self):
        lying = [((x, y), (x + 1, y)) for x in range(30) for y in range(14)]
        text = picture_by_hand_of_many(lying[:401])
        self.raises_like(TooLarge, 401, read_picture, text)
        self.raises_like(TooLarge, 401, read_picture, text + " ")
        self.raises_like(TooLarge, 401, read_picture, "x" + text[1:])
        self.raises_like(TooLarge, 401, read_picture, "\n\n" + text)
        self.raises_like(TooLarge, 420, read_picture, picture_by_hand_of_many(lying))
        self.assertEqual(len(read_picture(picture_by_hand_of_many(lying[:400]))), 400)
        # Signs that are no edges do not count.
        for rows in ("- " * 30 + "\n\n", "-" + "\n\n", "- " * 30 + "\n", "| " * 30 + "\n\n", " |\n"):
            self.raises_like(BadText, 1, read_picture, rows + picture_by_hand_of_many(lying[:400]))

    def test_all_edges_of_the_paper(self):
        # 1,860 edges in 3,811 characters.
        full = "+-" * 30 + "+"
        text = "\n".join([full] + [" ".join("|" * 31), full] * 30)
        self.raises_like(TooLarge, 1860, read_picture, text)

    def test_one_sign_is_changed_anywhere(self):
        chance = random.Random(31)
        for figure in any_figures(20):
            rows = picture(figure).split("\n")
            for _ in range(40):
                place = chance.randrange(len(rows))
                at = chance.randrange(len(rows[place]) + 1)
                row = rows[place][:at] + chance.choice("+-| #") + rows[place][at + 1:]
                text = "\n".join(rows[:place] + [row] + rows[place + 1:])
                try:
                    self.assertEqual(picture(read_picture(text)), text)
                except BadText as found:
                    self.assertLessEqual(found.value, len(rows))
                    self.assertGreaterEqual(found.value, 1)


def picture_by_hand_of_many(edges):
    """Return the picture of more edges than a figure has; all of them lie."""
    points = {point for edge in edges for point in edge}
    rows = []
    for y in range(max(point[1] for point in points), -1, -1):
        row = ""
        for x in range(31):
            row += ("+" if (x, y) in points else " ") + ("-" if ((x, y), (x + 1, y)) in edges else " ")
        rows += [row.rstrip(), ""]
    return "\n".join(rows[:-1])


class TestWalks(Case):
    def test_small(self):
        self.assertEqual(walk_text(((0, 0), (1, 0))), "0,0 r")
        self.assertEqual(walk_text(((30, 30), (30, 29), (29, 29), (29, 30), (30, 30))), "30,30 dlur")
        self.assertEqual(walk_text(walk=((3, 12), (3, 13), (3, 12))), "3,12 ud")
        self.assertEqual(read_walk("10,0 l"), ((10, 0), (9, 0)))
        self.assertEqual(read_walk(text="0,30 dr"), ((0, 30), (0, 29), (1, 29)))

    def test_there_and_back(self):
        for seed in range(40):
            walk = random_walk(2 + seed * 10, seed)
            steps = "".join(direction_of(one, other) for one, other in zip(walk, walk[1:]))
            text = f"{walk[0][0]},{walk[0][1]} {steps}"
            self.assertEqual(walk_text(walk), text)
            self.assertEqual(read_walk(text), walk)
            self.assertIs(type(read_walk(text)), tuple)
            self.assertEqual({type(point) for point in read_walk(text)}, {tuple})

    def test_from_each_point(self):
        for x in range(31):
            for y in range(31):
                for way in "ruld":
                    other = stepped((x, y), way)
                    text = f"{x},{y} {way}"
                    if min(other) >= 0 and max(other) <= 30:
                        self.assertEqual(read_walk(text), ((x, y), other))
                        self.assertEqual(walk_text(((x, y), other)), text)
                    else:
                        self.raises_like(BadText, 1, read_walk, text)
                        self.raises_it(InvalidWalk, value := ((x, y), other), walk_text, value)

    def test_at_most_401_points(self):
        walk = ((0, 0), (1, 0)) * 200 + ((0, 0),)
        self.assertEqual(len(walk), 401)
        self.assertEqual(walk_text(walk), "0,0 " + "rl" * 200)
        self.assertEqual(read_walk("0,0 " + "rl" * 200), walk)
        longer = walk + ((1, 0),)
        self.raises_it(InvalidWalk, longer, walk_text, longer)
        self.raises_like(BadText, 1, read_walk, "0,0 " + "rl" * 200 + "r")

    def test_not_a_walk(self):
        good = [(0, 0), (1, 0), (1, 1)]
        wrong = [
            good, [], (), ((0, 0),), ((0, 0), (0, 0)), ((0, 0), (2, 0)), ((0, 0), (1, 1)), ((0, 0), [1, 0]),
            ([0, 0], (1, 0)), ((0, 0), (1, 0), (1, 1), None), ((0, 0), (1, 0), (3, 0)), ((0, 0), (-1, 0)),
            ((30, 0), (31, 0)), ((0, 30), (0, 31)), ((0, 0), (True, 0)), ((False, 0), (1, 0)), ((0, 0), (0, True)),
            tuple(good) + ((1, 1),), "0,0 r", (good,), ((0, 0), (1, 0), "u"), ((0, 0), (1, 0), (1, 1, 1)),
        ]
        for value in wrong + any_values(others=False):
            self.raises_it(InvalidWalk, value, walk_text, value)

    def test_not_a_text_of_a_walk(self):
        wrong = [
            "", " ", "0,0", "0,0 ", "0,0  r", " 0,0 r", "0,0 r ", "0,0 r\n", "0, 0 r", "0 ,0 r", "0 0 r", "0,0,0 r",
            "0 r", ",0 r", "0, r", "00,0 r", "0,00 r", "01,0 r", "0,01 r", "007,7 r", "+1,0 r", "-1,0 r",
            "0,-1 u", "1_0,0 r",
            "31,0 l", "0,31 d", "99,0 r", "100,0 r", "0,0 R", "0,0 x", "0,0 r u", "0,0 ru,", "0,0\nr", "0,0,r",
            "(0, 0) r", "0,0 l", "0,0 d", "0,0 rrlll", "30,30 r", "0,30 u", "0,0 rx", "0.0 r", "r",
            "0,0 r" + "x" * 490, "9" * 500,
            "9" * 400 + ",0 r", "0,0 " + "r" * 31, "a,b r", "0,0 rr" + "l" * 3,
        ]
        for value in wrong + any_values():
            self.raises_like(BadText, 1, read_walk, value)
            if isinstance(value, str) and len(value) > 1:
                self.raises_like(BadText, 1, read_walk, [value])

    def test_walks_of_lines_that_leave_the_paper_and_come_back(self):
        self.raises_like(BadText, 1, read_walk, "0,0 lr")
        self.raises_like(BadText, 1, read_walk, "30,5 rl")
        self.raises_like(BadText, 1, read_walk, "5,30 ud")

    def test_nothing_is_changed(self):
        walk = random_walk(50, 1)
        kept = tuple(walk)
        read_walk(walk_text(walk))
        self.assertEqual(walk, kept)
        figure = border([(4, 4)])
        edges = figure.edges
        picture(figure)
        self.assertEqual(figure.edges, edges)
