"""The cells [3], [61] and [62]."""

import random

from nevercrossed.cells import border, dark_cells
from nevercrossed.errors import InvalidCells, NotEven, TooLarge
from nevercrossed.figures import Figure
from nevercrossed.texts import read_picture
from tests.helper import Case, any_values
from tests.samples import ALL_CELLS, any_figures, checkered, even_figures, is_dark_by_hand, pieces


def random_cells(seed, size=6):
    """Return cells of a corner of the paper in no order, some of them twice."""
    chance = random.Random(seed)
    cells = [(x, y) for x in range(size) for y in range(size) if chance.random() < 0.5]
    cells += cells[::3]
    chance.shuffle(cells)
    return cells


def border_by_hand(cells):
    """Return the sides that belong to exactly one of the cells."""
    sides = []
    for x, y in set(cells):
        low, right, up, far = (x, y), (x + 1, y), (x, y + 1), (x + 1, y + 1)
        sides += [(low, right), (low, up), (up, far), (right, far)]
    return tuple(sorted(side for side in sides if sides.count(side) == 1))


class TestBorder(Case):
    def test_small(self):
        self.assertEqual(border([]), Figure())
        self.assertEqual(border(()), Figure())
        self.assertEqual(border([(0, 0)]).edges, border_by_hand([(0, 0)]))
        self.assertEqual(border(cells=[(0, 0), (1, 0)]), read_picture("+-+-+\n|   |\n+-+-+"))
        self.assertEqual(border([(0, 0), (1, 1)]), read_picture("  +-+\n  | |\n+-+-+\n| |\n+-+"))
        self.assertEqual(border([(0, 1), (1, 0)]), read_picture("+-+\n| |\n+-+-+\n  | |\n  +-+"))

    def test_a_hole(self):
        around = [(x, y) for x in range(3) for y in range(3) if (x, y) != (1, 1)]
        self.assertEqual(border(around), read_picture("+-+-+-+\n|     |\n+ +-+ +\n| | | |\n+ +-+ +\n|     |\n+-+-+-+"))
        self.assertEqual(border(around), border([(x, y) for x in range(3) for y in range(3)]) | border([(1, 1)]))

    def test_cells_that_occur_several_times(self):
        self.assertEqual(border([(4, 4)] * 2), border([(4, 4)]))
        self.assertEqual(border([(4, 4), (4, 5), (4, 4), (4, 4), (4, 5)]), border([(4, 4), (4, 5)]))

    def test_rims_and_corners(self):
        for cell in ((0, 0), (29, 0), (0, 29), (29, 29), (13, 0), (0, 13), (29, 13), (13, 29)):
            figure = border([cell])
            self.assertEqual(figure.edges, border_by_hand([cell]))
            self.assertEqual(dark_cells(figure), (cell,))
        # Cells whose numbers are near one another, but which are far apart.
        for cells in ([(0, 29), (1, 0)], [(4, 29), (5, 0)], [(29, 29), (0, 0)]):
            self.assertEqual(border(cells).edges, border_by_hand(cells))

    def test_as_the_document_defines_it(self):
        for seed in range(60):
            cells = random_cells(seed)
            for value in (cells, tuple(cells)):
                figure = border(value)
                self.assertIs(type(figure), Figure)
                self.assertEqual(figure.edges, border_by_hand(cells))
                self.assertEqual(figure.odd_points(), ())
                self.assertEqual(figure, Figure(figure.edges))
            self.assertEqual(dark_cells(figure), tuple(sorted(set(cells))))

    def test_all_cells(self):
        figure = border(ALL_CELLS)
        self.assertEqual(len(figure), 120)
        self.assertEqual(dark_cells(figure), tuple(ALL_CELLS))
        without = [cell for cell in ALL_CELLS if cell not in ((0, 0), (15, 15), (29, 29))]
        self.assertEqual(dark_cells(border(without)), tuple(without))

    def test_at_most_400_edges(self):
        alone = [(x, y) for x in range(0, 30, 2) for y in range(0, 14, 2)]
        self.assertEqual(len(border(alone[:100])), 400)
        self.raises_like(TooLarge, 404, border, alone[:101])
        self.raises_like(TooLarge, 402, border, alone[:99] + [(29, 29), (29, 28)])
        chess = [(x, y) for x, y in ALL_CELLS if (x + y) % 2 == 0]
        self.raises_like(TooLarge, 1800, border, chess)
        self.raises_like(TooLarge, 1800, border, tuple(chess) * 2)

    def test_not_a_list_of_cells(self):
        for value in any_values(others=False):
            if value not in ([], ()):
                self.raises_it(InvalidCells, value, border, value)
        wrong = [(30, 0), (0, 30), (-1, 0), (0, -1), (True, 0), (0, False), [0, 0], (0,), (0, 0, 0), None, "", 0, ()]
        for item in wrong:
            for value in ([item], [(0, 0), item], (item, (0, 0)), [(0, 0), item, (1, 1)]):
                self.raises_it(InvalidCells, value, border, value)
        self.raises_it(InvalidCells, value := {(0, 0): 1}, border, value)
        self.raises_it(InvalidCells, value := (0, 0), border, value)

    def test_wrong_cells_come_before_too_many(self):
        value = [(x, y) for x, y in ALL_CELLS if (x + y) % 2 == 0] + [(30, 30)]
        self.raises_it(InvalidCells, value, border, value)

    def test_the_list_stays_as_it_was(self):
        cells = [(1, 1), (0, 0), (1, 1)]
        border(cells)
        self.assertEqual(cells, [(1, 1), (0, 0), (1, 1)])


class TestDarkCells(Case):
    def test_small(self):
        self.assertEqual(dark_cells(Figure()), ())
        self.assertEqual(dark_cells(figure=read_picture("+-+-+\n|   |\n+-+-+")), ((0, 0), (1, 0)))
        self.assertEqual(dark_cells(checkered(3, 3)), ((0, 0), (0, 2), (1, 1), (2, 0), (2, 2)))

    def test_as_the_document_defines_them(self):
        for figure in even_figures(20):
            expected = [cell for cell in ALL_CELLS if is_dark_by_hand(figure, cell)]
            self.assertEqual(dark_cells(figure), tuple(expected))
            self.assertEqual(border(dark_cells(figure)), figure)

    def test_there_and_back(self):
        for figure in even_figures(200):
            cells = dark_cells(figure)
            self.assertIs(type(cells), tuple)
            self.assertEqual(border(cells), figure)
            for piece in pieces(figure):
                self.assertEqual(border(dark_cells(piece)), piece)

    def test_dark_in_exactly_one(self):
        figures = even_figures(24)
        for figure in figures:
            for other in figures:
                expected = sorted(set(dark_cells(figure)) ^ set(dark_cells(other)))
                self.assertEqual(dark_cells(figure ^ other), tuple(expected))

    def test_odd_figures(self):
        odd = 0
        for figure in any_figures(80):
            if figure.odd_points():
                odd += 1
                self.raises_like(NotEven, figure.odd_points()[0], dark_cells, figure)
        self.assertGreater(odd, 50)
        self.raises_like(NotEven, (0, 1), dark_cells, read_picture("+-+\n| |\n+-+\n| |\n+-+"))
        self.raises_like(NotEven, (29, 30), dark_cells, Figure([((29, 30), (30, 30))]))
