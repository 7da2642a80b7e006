"""Groups of things: at first each thing is alone, later groups become one."""


class Groups:
    """Groups of things that have no group in common."""

    def __init__(self, things):
        self._above = {thing: thing for thing in things}

    def leader(self, thing):
        """Return the thing that stands for the group of a thing."""
        above = self._above
        while above[thing] != thing:
            above[thing] = above[above[thing]]
            thing = above[thing]
        return thing

    def unite(self, thing, other):
        """Make one group of the groups of two things, and tell whether they were two."""
        first = self.leader(thing)
        second = self.leader(other)
        self._above[second] = first
        return first != second
