"""The regions [3], [4] and [71] to [73]."""

from nevercrossed.cells import border, dark_cells
from nevercrossed.errors import InvalidCells, InvalidColor, InvalidFigure, InvalidPoint, NotEven, NotOnePiece
from nevercrossed.fewest import pieces
from nevercrossed.figures import Figure
from nevercrossed.regions import Regions
from tests.helper import Case, any_values
from tests.samples import (
    ALL_CELLS, BOTH, HOLE, RING, SQUARE, WITHIN, any_figures, checkered, crossings_of, even_figures, is_dark_by_hand,
    regions_by_hand, single_figures,
)


def squares_at(point):
    """Return the squares between r and u, u and l, l and d, d and r."""
    x, y = point
    return (x, y), (x - 1, y), (x - 1, y - 1), (x, y - 1)


class TestMaking(Case):
    def test_one_square(self):
        for dx in (0, 14, 29):
            for dy in (0, 8, 29):
                regions = Regions(SQUARE.shifted(dx, dy))
                self.assertEqual(regions.dark, (((dx, dy),),))
                self.assertEqual(regions.light, (tuple(cell for cell in ALL_CELLS if cell != (dx, dy)),))

    def test_attributes(self):
        regions = Regions(figure=BOTH)
        self.assertEqual(sorted(name for name in vars(regions) if not name.startswith("_")), ["dark", "light"])
        self.assertEqual([type(regions.dark), type(regions.light)], [tuple, tuple])
        for region in regions.dark + regions.light:
            self.assertEqual({type(part) for part in (region,) + region}, {tuple})

    def test_the_outside_without_cells(self):
        regions = Regions(border(ALL_CELLS))
        self.assertEqual([regions.dark, regions.light], [(tuple(ALL_CELLS),), ((),)])
        # A hole in the middle does not belong to the outside; one that is open to a rim does.
        hole = [cell for cell in ALL_CELLS if cell not in ((14, 14), (15, 15), (14, 15), (15, 14))]
        frame = border(hole)
        self.assertEqual(len(pieces(frame)), 2)
        self.raises_it(NotOnePiece, frame, Regions, frame)
        touching = border([cell for cell in ALL_CELLS if cell not in ((1, 1), (0, 0))])
        regions = Regions(touching)
        self.assertEqual(regions.light, (((0, 0),), ((1, 1),)))
        self.assertEqual([regions.find((0, 0)), regions.find((1, 1))], [("light", 0), ("light", 1)])

    def test_the_outside_is_always_the_first_one(self):
        # A chain of holes from (1, 1) on, of which only the last one is open to the outside.
        chain = [(place, place) for place in range(1, 30)]
        figure = border([cell for cell in ALL_CELLS if cell not in chain])
        regions = Regions(figure)
        self.assertEqual(regions.light, (((29, 29),),) + tuple((cell,) for cell in chain[:-1]))
        ring = Regions(RING)
        self.assertEqual(ring.light[1:], (((1, 1),),))
        self.assertEqual(ring.light[0][:2], ((0, 0), (0, 2)))

    def test_regions_within_regions(self):
        regions = Regions(WITHIN)
        self.assertEqual([len(regions.dark), len(regions.light)], [2, 2])
        self.assertEqual([regions.dark[1], regions.light[1]], [((2, 2),), HOLE])
        self.assertEqual((regions.dark, regions.light), regions_by_hand(WITHIN))
        deep = checkered(9, 9)
        self.assertEqual([len(Regions(deep).dark), len(Regions(deep).light)], [41, 25])

    def test_as_the_document_defines_them(self):
        for figure in single_figures(30) + [border(ALL_CELLS), checkered(9, 11), checkered(3, 29)]:
            regions = Regions(figure)
            self.assertEqual((regions.dark, regions.light), regions_by_hand(figure))
            self.assertEqual(tuple(sorted(cell for region in regions.dark for cell in region)), dark_cells(figure))
            self.assertEqual(len(regions.dark) + len(regions.light), len(crossings_of(figure)) + 2)

    def test_moved_figures_have_as_many(self):
        for figure in single_figures(30):
            many = [len(Regions(figure).dark), len(Regions(figure).light)]
            for other in (figure.turned(), figure.mirrored(), figure.turned().turned()):
                self.assertEqual([len(Regions(other).dark), len(Regions(other).light)], many)

    def test_not_a_figure(self):
        for value in any_values():
            if not isinstance(value, Figure):
                self.raises_it(InvalidFigure, value, Regions, value)

    def test_odd_figures(self):
        for figure in any_figures(60):
            if figure.odd_points():
                self.raises_like(NotEven, figure.odd_points()[0], Regions, figure)

    def test_no_piece_and_several(self):
        self.raises_it(NotOnePiece, value := Figure(), Regions, value)
        several = 0
        for figure in even_figures(80):
            if len(pieces(figure)) != 1:
                several += 1
                self.raises_it(NotOnePiece, figure, Regions, figure)
            else:
                Regions(figure)
        self.assertGreater(several, 15)
        for other in (SQUARE.shifted(5, 5), SQUARE.shifted(2, 0), SQUARE.shifted(0, 2)):
            self.raises_it(NotOnePiece, value := SQUARE | other, Regions, value)
        within = border([(x, y) for x in range(3) for y in range(3) if (x, y) != (1, 1)])
        self.raises_it(NotOnePiece, within, Regions, within)

    def test_odd_comes_before_several_pieces(self):
        figure = SQUARE | Figure([((5, 5), (6, 5))])
        self.raises_like(NotEven, (5, 5), Regions, figure)

    def test_again_after_it_was_refused(self):
        figure = SQUARE | SQUARE.shifted(4, 4)
        for _ in range(3):
            self.raises_it(NotOnePiece, figure, Regions, figure)

    def test_by_identity(self):
        one, two = Regions(SQUARE), Regions(SQUARE)
        self.assertEqual([one == one, one == two, one != two], [True, False, True])
        self.assertEqual(one.dark, two.dark)
        self.assertEqual(len({one: 1, two: 2}), 2)


class TestAsking(Case):
    def test_find(self):
        for figure in single_figures(20) + [border(ALL_CELLS), checkered(9, 11)]:
            regions = Regions(figure)
            for cell in ALL_CELLS:
                color, number = regions.find(cell)
                self.assertEqual(color, "dark" if is_dark_by_hand(figure, cell) else "light")
                self.assertIn(cell, (regions.dark if color == "dark" else regions.light)[number])
            self.assertIs(type(regions.find((0, 0))), tuple)

    def test_find_with_other_values(self):
        regions = Regions(BOTH)
        for value in any_values() + [(30, 0), (0, 30), (-1, 0), (True, 0), (0, False), [0, 0], (0, 0, 0)]:
            self.raises_it(InvalidCells, value, regions.find, value)
        self.assertEqual(regions.find(cell=(1, 1)), ("dark", 1))

    def test_crossings(self):
        for figure in single_figures(30):
            self.assertEqual(Regions(figure).crossings(), tuple(crossings_of(figure)))
            self.assertIs(type(Regions(figure).crossings()), tuple)

    def test_between_and_joining(self):
        for figure in single_figures(30) + [WITHIN, WITHIN.turned(), checkered(9, 11)]:
            regions = Regions(figure)
            for point in regions.crossings():
                found = [regions.find(square) for square in squares_at(point)]
                for color in ("dark", "light"):
                    numbers = sorted(number for place, number in found if place == color)
                    self.assertEqual(regions.between(color, point), tuple(numbers))
                    self.assertEqual(len(numbers), 2)
                self.assertEqual(found[0][0], found[2][0])
                self.assertEqual(regions.joining(point), "rd" if found[0][0] == "dark" else "ru")

    def test_a_loop(self):
        regions = Regions(WITHIN)
        self.assertEqual(regions.crossings(), ((1, 1), (3, 3)))
        self.assertEqual([regions.between("dark", (1, 1)), regions.between("light", (1, 1))], [(0, 0), (0, 1)])
        self.assertEqual([regions.between("dark", (3, 3)), regions.between("light", (3, 3))], [(0, 1), (1, 1)])

    def test_joining_is_turned_with_the_figure(self):
        self.assertEqual(Regions(BOTH).joining((1, 1)), "rd")
        self.assertEqual(Regions(BOTH.mirrored()).joining((29, 1)), "ru")

    def test_other_colors(self):
        regions = Regions(BOTH)
        wrong = ["Dark", "darklight", "LIGHT", "dark ", ["dark"], ("dark",), ("dark", "light"), "d"]
        for value in any_values() + wrong:
            self.raises_it(InvalidColor, value, regions.between, value, (1, 1))
            self.raises_it(InvalidColor, value, regions.between, value, None)

    def test_other_points(self):
        regions = Regions(BOTH)
        for value in any_values() + [(0, 0), (2, 1), (9, 9), (31, 1), (True, 1), (1, True), [1, 1], (1, 1, 1)]:
            self.raises_it(InvalidPoint, value, regions.between, "dark", value)
            self.raises_it(InvalidPoint, value, regions.between, "light", value)
            self.raises_it(InvalidPoint, value, regions.joining, value)
        self.assertEqual(regions.between(point=(1, 1), color="dark"), (0, 1))
        self.assertEqual(regions.joining(point=(1, 1)), "rd")

    def test_the_figure_stays_as_it_was(self):
        figure = checkered(5, 5)
        kept = figure.edges, figure.points(), figure.odd_points()
        Regions(figure)
        self.assertEqual((figure.edges, figure.points(), figure.odd_points()), kept)
        self.assertEqual(figure, checkered(5, 5))
