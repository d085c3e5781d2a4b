"""Workings: the lines of a log that grows, each with its row."""

from weighrow.logs import Log, made_row


class Workings:
    """Lines that were written so far; each is known by its number."""

    def __init__(self):
        self.steps = []
        self.results = []

    def give(self, number, row):
        """Writes the line of a given row; its number is told."""
        return self.write(("row", number), row)

    def make(self, line):
        """Writes a line that is made of lines ahead of it; its number is told."""
        return self.write(line, made_row(line, self.results))

    def write(self, line, row):
        """Writes the line, which has this row; its number is told."""
        self.steps.append(line)
        self.results.append(row)
        return len(self.steps) - 1

    def row_at(self, at):
        """The row of the line of that number."""
        return self.results[at]

    def log_to(self, at):
        """A Log of just the line of that number and those of which it is made."""
        return Log(self.steps).cut(at)

    def leans_at(self, places):
        """For each of these lines the numbers of the given rows on which it leans, rising."""
        told = Log(self.steps).leans()
        return [told[at] for at in places]

    def copied(self):
        """New Workings of the same lines."""
        other = Workings()
        other.steps = list(self.steps)
        other.results = list(self.results)
        return other
