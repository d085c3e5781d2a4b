"""The trail of a search: the sides that are set, one behind the other."""


class Trail:
    """Wishes at depth 0, and behind each choice, one deeper, what rows tell then."""

    def __init__(self, wishes):
        # Each entry is (mark, want, the line whose row told it or None, the depth at which it was set).
        self.entries = []
        self.wants = {}
        self.depth = 0
        for side in wishes:
            self.set_side(side, None)

    def set_side(self, side, line):
        """Sets a side that the row of the line tells; None for a line where no row does."""
        mark, want = side
        self.entries.append((mark, want, line, self.depth))
        self.wants[mark] = want

    def choose(self, side):
        """Sets a side one deeper than all that is set."""
        self.depth += 1
        self.set_side(side, None)

    def wants_at(self, depth):
        """The wants of the marks that are set at that depth or ahead of it."""
        return {mark: want for mark, want, line, level in self.entries if level <= depth}

    def go_back(self, depth):
        """Frees all marks that were set deeper."""
        self.wants = self.wants_at(depth)
        self.entries = [entry for entry in self.entries if entry[3] <= depth]
        self.depth = depth

    def copied(self):
        """A new Trail of the same sides."""
        other = Trail([])
        other.entries = list(self.entries)
        other.wants = dict(self.wants)
        other.depth = self.depth
        return other
