"""Forests: edges of a graph that close no round; the nodes are the numbers from 0 on."""


class Forest:
    """A forest, hung up at one node of each of its trees, so that the way between two nodes is found by climbing."""

    def __init__(self, size, pairs, places):
        """Hang up the edges at some places of a list of pairs of nodes."""
        ways = [[] for _ in range(size)]
        for place in places:
            one, other = pairs[place]
            ways[one].append((other, place))
            ways[other].append((one, place))
        # By node: the node above it and the place of the edge to it, how deep it hangs, and the topmost node.
        self.above = [(None, None)] * size
        self.depths = [-1] * size
        self.tops = list(range(size))
        for top in range(size):
            if self.depths[top] < 0:
                self._hang(top, ways)

    def path(self, one, other):
        """Return the nodes from one to another one and the places of the edges between, or None if there is no way."""
        if self.tops[one] != self.tops[other]:
            return None
        numbers, passed = [one], []
        back_numbers, back_passed = [other], []
        while numbers[-1] != back_numbers[-1]:
            if self.depths[numbers[-1]] >= self.depths[back_numbers[-1]]:
                self._climb(numbers, passed)
            else:
                self._climb(back_numbers, back_passed)
        return numbers + back_numbers[-2::-1], passed + back_passed[::-1]

    def _hang(self, top, ways):
        self.depths[top] = 0
        waiting = [top]
        while waiting:
            node = waiting.pop()
            for near, place in ways[node]:
                if self.depths[near] < 0:
                    self.above[near] = (node, place)
                    self.depths[near] = self.depths[node] + 1
                    self.tops[near] = top
                    waiting.append(near)

    def _climb(self, numbers, passed):
        node, place = self.above[numbers[-1]]
        numbers.append(node)
        passed.append(place)
