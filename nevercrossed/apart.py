"""Forests of one graph that have no edge in common and together as many edges as possible."""

from nevercrossed.forests import Forest
from nevercrossed.groups import Groups


class Apart:
    """So many forests, and the clumps of nodes: whatever edges are within a clump, no others would be more."""

    def __init__(self, size, pairs, many):
        self._size = size
        self._pairs = pairs
        # The places of the edges that are in a forest, with the number of it.
        self._homes = {}
        self._forests = [Forest(size, pairs, []) for _ in range(many)]
        self._clumps = Groups(list(range(size)))
        for place in range(len(pairs)):
            self._take_in(place)

    def parts(self):
        """Return for each forest the list of the places of its edges."""
        return [self._part(number) for number in range(len(self._forests))]

    def within_clumps(self):
        """Return the places of the edges within clumps: each forest has as many of them as any forest could have."""
        return [place for place in range(len(self._pairs)) if self._is_within(place)]

    def _part(self, number):
        return [place for place, home in self._homes.items() if home == number]

    def _is_within(self, place):
        one, other = self._pairs[place]
        return self._clumps.leader(one) == self._clumps.leader(other)

    def _take_in(self, place):
        """Give an edge to a forest, if need be by moving others; if that is impossible, make a clump of all these."""
        if self._is_within(place):
            return
        before = {place: None}
        waiting = [place]
        at = 0
        while at < len(waiting):
            for number in range(len(self._forests)):
                passed = self._in_the_way(waiting[at], number)
                if passed is None:
                    self._move(waiting[at], number, before)
                    return
                for step in passed:
                    if step not in before:
                        before[step] = waiting[at]
                        waiting.append(step)
            at += 1
        # No forest can take in an edge between these nodes without giving away another one of them.
        for step in waiting:
            one, other = self._pairs[step]
            self._clumps.unite(one, other)

    def _in_the_way(self, place, number):
        """Return the edges of a forest between the nodes of an edge, or None if there is no way."""
        one, other = self._pairs[place]
        found = self._forests[number].path(one, other)
        return None if found is None else found[1]

    def _move(self, place, number, before):
        """Move an edge to a forest, the edge that wanted its place to where it was, and so on."""
        changed = {number: True}
        home = number
        while place is not None:
            old = self._homes.get(place, -1)
            self._homes[place] = home
            changed[home] = True
            place, home = before[place], old
        for home in changed:
            self._forests[home] = Forest(self._size, self._pairs, self._part(home))
