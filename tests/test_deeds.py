"""Rows of deeds on figures [21] to [24]: their answers, one after another, and their time."""

import random
import time

from nevercrossed.errors import BeyondPaper, TooLarge
from nevercrossed.figures import Figure
from tests.helper import Case
from tests.samples import ALL_EDGES, any_figures

GRID = Figure([edge for edge in ALL_EDGES if edge[1][0] <= 4 and edge[1][1] <= 4])
LOW = Figure([((j % 30, j // 30), (j % 30 + 1, j // 30)) for j in range(200)])
HIGH = Figure([((j % 30, 30 - j // 30), (j % 30 + 1, 30 - j // 30)) for j in range(200)])


def moved(edges, move):
    """Return the edges with each point moved, the lesser point of each first."""
    return {tuple(sorted((move(*point), move(*other)))) for point, other in edges}


class TestRows(Case):
    def test_rows_of_deeds(self):
        chance = random.Random(7)
        refused = 0
        for row in range(150):
            figure = Figure(chance.sample(ALL_EDGES, chance.choice((0, 1, 40, 200, 350))))
            edges = set(figure.edges)
            for _ in range(12):
                other = chance.choice((figure, Figure(chance.sample(ALL_EDGES, chance.choice((0, 1, 40, 200, 350))))))
                other = chance.choice((other, other.turned(), other.mirrored()))
                figure, edges, was_refused = self.one_deed(chance, figure, edges, other)
                refused += was_refused
                self.check(figure, edges, chance)
        self.assertGreater(refused, 100)

    def one_deed(self, chance, figure, edges, other):
        """Return the figure and its edges after a deed, and whether it was refused."""
        deed = chance.choice("|&-^tms")
        dx, dy = chance.choice((0, 0, 1, -1, 3)), chance.choice((0, 0, 1, -2))
        actions = {
            "|": (lambda: figure | other, edges | set(other.edges)),
            "&": (lambda: figure & other, edges & set(other.edges)),
            "-": (lambda: figure - other, edges - set(other.edges)),
            "^": (lambda: figure ^ other, edges ^ set(other.edges)),
            "t": (figure.turned, moved(edges, lambda x, y: (30 - y, x))),
            "m": (figure.mirrored, moved(edges, lambda x, y: (30 - x, y))),
            "s": (lambda: figure.shifted(dx, dy), moved(edges, lambda x, y: (x + dx, y + dy))),
        }
        action, expected = actions[deed]
        if deed == "s" and not expected <= set(ALL_EDGES):
            self.raises_it(BeyondPaper, figure, action)
        elif len(expected) > 400:
            self.raises_like(TooLarge, len(expected), action)
        else:
            return action(), expected, False
        return figure, edges, True

    def check(self, figure, edges, chance):
        self.assertEqual(figure.edges, tuple(sorted(edges)))
        self.assertIs(type(figure), Figure)
        self.assertEqual(len(figure), len(edges))
        again = Figure(figure.edges)
        self.assertIs(figure == again, True)
        if chance.random() < 0.3:
            self.assertEqual(figure.points(), tuple(sorted({point for edge in edges for point in edge})))
            self.assertEqual(figure.odd_points(), again.odd_points())
            for point in figure.points():
                self.assertEqual(figure.directions(point), again.directions(point))
            for edge in chance.sample(ALL_EDGES, 100):
                self.assertIs(edge in figure, edge in edges)

    def test_what_was_asked_before_does_not_matter(self):
        for figure in any_figures(40):
            asked, fresh = Figure(figure.edges), Figure(figure.edges)
            asked.odd_points()
            asked.points()
            for action in (lambda one: one ^ figure.turned(), lambda one: one & figure.mirrored(), Figure.mirrored):
                self.assertEqual(action(asked).points(), Figure(action(fresh).edges).points())
                self.assertEqual(action(asked), action(fresh))


class TestTime(Case):
    def test_small_figures(self):
        other = GRID.shifted(2, 1)
        started = time.process_time()
        for _ in range(1500):
            for result in (GRID | other, GRID & other, GRID - other, GRID ^ other, GRID.turned(), GRID.mirrored()):
                result.edges
            GRID.shifted(1, 1).odd_points()
            Figure(GRID.edges)
        # About 0.15 seconds; when each result was checked like a value from outside it took about 1.9.
        self.assertLess(time.process_time() - started, 0.9)

    def test_large_figures(self):
        started = time.process_time()
        for _ in range(300):
            for one, other in ((LOW, HIGH), (HIGH, LOW), (LOW, LOW)):
                for result in (one | other, one & other, one - other, one ^ other):
                    result.edges
        # About 0.07 seconds, where it took about 3.3.
        self.assertLess(time.process_time() - started, 1.3)
