"""Forests without an edge in common, for graphs of any kind: what the plans that spread [151] are made of."""

import itertools
import random
import unittest

from nevercrossed.apart import Apart
from nevercrossed.forests import Forest
from tests.samples import parts_by_hand


def some_graph(chance):
    """Return the number of nodes and the edges of a graph, perhaps with loops and with several edges at two nodes."""
    size = chance.randint(1, 6)
    return size, [(chance.randrange(size), chance.randrange(size)) for _ in range(chance.randint(0, 11))]


def rank(size, pairs):
    return size - parts_by_hand(range(size), pairs)


def most_by_hand(size, pairs, many):
    """Return how many edges so many forests have at most: as few as some set of edges shows."""
    sets = [chosen for few in range(len(pairs) + 1) for chosen in itertools.combinations(pairs, few)]
    return min(len(pairs) - len(chosen) + many * rank(size, chosen) for chosen in sets)


class TestApart(unittest.TestCase):
    def check(self, size, pairs, many):
        """Check the forests and the clumps, and return the number of edges in the forests."""
        apart = Apart(size, pairs, many)
        parts = apart.parts()
        self.assertEqual(len(parts), many)
        held = [place for part in parts for place in part]
        self.assertEqual(len(set(held)), len(held))
        for part in parts:
            self.assertEqual(rank(size, [pairs[place] for place in part]), len(part))
        within = apart.within_clumps()
        shown = len(pairs) - len(within) + many * rank(size, [pairs[place] for place in within])
        self.assertEqual(len(held), shown)
        return len(held)

    def test_all_small_graphs(self):
        chance = random.Random(16)
        for _ in range(150):
            size, pairs = some_graph(chance)
            for many in (1, 2, 3):
                self.assertEqual(self.check(size, pairs, many), most_by_hand(size, pairs, many))

    def test_larger_graphs(self):
        chance = random.Random(17)
        for _ in range(150):
            size = chance.randint(2, 30)
            pairs = [(chance.randrange(size), chance.randrange(size)) for _ in range(chance.randint(0, 80))]
            for many in range(1, 7):
                self.check(size, pairs, many)

    def test_edges_that_must_be_moved_far(self):
        # All edges of a clique of 2 * many nodes are just in so many trees; near ones first, so that many must move.
        for many in range(1, 7):
            pairs = sorted(itertools.combinations(range(2 * many), 2), key=lambda pair: pair[1] - pair[0])
            for order in (pairs, pairs[::-1], random.Random(many).sample(pairs, len(pairs))):
                self.assertEqual(self.check(2 * many, order, many), len(pairs))
                self.assertEqual(self.check(2 * many, order + pairs, many), len(pairs))


class TestForest(unittest.TestCase):
    def test_paths(self):
        chance = random.Random(18)
        for _ in range(200):
            size = chance.randint(1, 20)
            pairs, places = [], []
            for place in range(chance.randint(0, 25)):
                pairs.append((chance.randrange(size), chance.randrange(size)))
                if rank(size, [pairs[held] for held in places + [place]]) > len(places):
                    places.append(place)
            forest = Forest(size, pairs, places)
            for one, other in itertools.product(range(size), repeat=2):
                found = forest.path(one, other)
                joined = [pairs[place] for place in places] + [(one, other)]
                if one != other and rank(size, joined) > len(places):
                    self.assertIsNone(found)
                    continue
                numbers, passed = found
                self.assertEqual([numbers[0], numbers[-1], len(passed)], [one, other, len(numbers) - 1])
                self.assertEqual(len(set(numbers)), len(numbers))
                for place, near, far in zip(passed, numbers, numbers[1:]):
                    self.assertIn(place, places)
                    self.assertEqual(sorted(pairs[place]), sorted((near, far)))
