"""Spanning trees of a connected graph, counted."""


class Trees:
    """The number of the spanning trees, and the matrix that tells in how many of them an edge would be.

    The matrix is the adjugate of the graph's Laplacian without the first node, for which it has a row and a column of
    zeros. All divisions leave nothing over.
    """

    def __init__(self, total, rows):
        self.total = total
        self.rows = rows

    def many_with(self, one, other):
        """Return in how many of the trees an edge between two nodes is, if it belongs to the graph."""
        return self.rows[one][one] + self.rows[other][other] - 2 * self.rows[one][other]

    def only_with(self, one, other):
        """Return the trees with an edge: its two nodes are one node."""
        many = self.many_with(one, other)
        return Trees(many, self._changed(one, other, many, -1))

    def only_without(self, one, other):
        """Return the trees without an edge: it is taken out of the graph."""
        many = self.total - self.many_with(one, other)
        return Trees(many, self._changed(one, other, many, 1))

    def also_with(self, one, other):
        """Return the trees of the graph with one edge more."""
        many = self.total + self.many_with(one, other)
        return Trees(many, self._changed(one, other, many, -1))

    def _changed(self, one, other, factor, sign):
        if one == other:
            return self.rows
        total = self.total
        column = [a - b for a, b in zip(self.rows[one], self.rows[other])]
        return [
            [(factor * value + sign * across * along) // total for value, along in zip(row, column)]
            for row, across in zip(self.rows, column)
        ]


def trees_of(size, pairs):
    """Return the spanning trees of the connected graph of the nodes from 0 to size - 1 with pairs of them as edges."""
    rows = [[0] * size for _ in range(size)]
    in_tree = _hang_all(rows, pairs)
    trees = Trees(1, rows)
    for index, (one, other) in enumerate(pairs):
        if index not in in_tree:
            trees = trees.also_with(one, other)
    return trees


def _hang_all(rows, pairs):
    """Fill the matrix for one spanning tree, and return the indexes of its edges as a dict."""
    ways = _ways(len(rows), pairs)
    in_tree = {}
    reached = [0]
    is_reached = {0: True}
    waiting = [0]
    while waiting:
        above = waiting.pop()
        for node, index in ways[above]:
            if node not in is_reached:
                # Two nodes count the edges that their ways to the first node have in common.
                for earlier in reached:
                    rows[node][earlier] = rows[earlier][node] = rows[above][earlier]
                rows[node][node] = rows[above][above] + 1
                in_tree[index] = True
                is_reached[node] = True
                reached.append(node)
                waiting.append(node)
    return in_tree


def _ways(size, pairs):
    ways = [[] for _ in range(size)]
    for index, (one, other) in enumerate(pairs):
        ways[one].append((other, index))
        ways[other].append((one, index))
    return ways
