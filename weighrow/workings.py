"""Workings: the lines of a log that grows, each with its row."""

from weighrow.logs import Log, cut_to, lines_needed, made_row, renamed


class Workings:
    """Lines that were written so far; each is known by its number."""

    def __init__(self):
        self.steps = []
        self.results = []

    def give(self, number, row):
        """Writes the line of a given row; its number is told."""
        return self.write(("row", number), row)

    def make(self, line):
        """Writes a line that is made of lines ahead of it; its number is told."""
        return self.write(line, made_row(line, self.results))

    def write(self, line, row):
        """Writes the line, which has this row; its number is told."""
        self.steps.append(line)
        self.results.append(row)
        return len(self.steps) - 1

    def row_at(self, at):
        """The row of the line of that number."""
        return self.results[at]

    def log_to(self, places):
        """A Log of just these lines and those of which they are made."""
        return cut_to(self.steps, places)

    def leans_at(self, places):
        """For each of these lines the numbers of the given rows on which it leans, rising."""
        told = Log(self.steps).leans()
        return [told[at] for at in places]

    def take_over(self, other, places):
        """Writes those lines of other workings, and those of which they are made; their new numbers are told.

        The given rows of which they are made have been given here ahead of that.
        """
        news = {}
        for at in lines_needed(other.steps, places):
            line = renamed(other.steps[at], lambda name: news[name])
            news[at] = self.steps.index(line) if line[0] == "row" else self.write(line, other.results[at])
        return [news[at] for at in places]

    def copied(self):
        """New Workings of the same lines."""
        other = Workings()
        other.steps = list(self.steps)
        other.results = list(self.results)
        return other
