"""Logs: lists of lines, each a row that is given or one made of lines ahead of it."""

from weighrow.errors import BadLine, BadText, BadTimes, NoLine, NoMark
from weighrow.figures import figures, is_number
from weighrow.rows import BAR, added, divided, weakened

# How many things a line has, by its first text, and at which places of it other lines are named.
THINGS = {"row": 2, "add": 5, "divide": 3, "weaken": 3}
NAMING = {"row": (), "add": (1, 3), "divide": (1,), "weaken": (1,)}


class Log:
    """A list of lines that can be added up, from given rows."""

    def __init__(self, lines):
        self.held = list(lines)

    def lines(self):
        """The lines, as a new list."""
        return list(self.held)

    def rows(self, given):
        """The row of each line, or BadLine for the first line that is wrong."""
        known = {number: row for number, row in given}
        made = []
        for line in self.held:
            made.append(checked_row(line, made, known))
        return made

    def bars(self, given):
        """True where the last line's row is the bar."""
        made = self.rows(given)
        return made != [] and made[-1] == BAR

    def leans(self):
        """For each line the numbers of the given rows of which it was made, rising."""
        told = []
        for at, line in enumerate(self.held):
            numbers = [line[1]] if is_formed(line) and line[0] == "row" else []
            for name in lines_ahead(line, at):
                numbers.extend(told[name])
            told.append(tuple(sorted(set(numbers))))
        return told

    def cut(self, at):
        """A Log of just that line and those of which it is made."""
        if at < 0 or at >= len(self.held):
            raise NoLine()
        return cut_to(self.held, [at])

    def without(self, number):
        """A Log of just those lines that do not lean on the given row of that number."""
        gone = {}
        for at, line in enumerate(self.held):
            if line == ("row", number) or any([name in gone for name in lines_ahead(line, at)]):
                gone[at] = True
        return Log(picked(self.held, [at for at in range(len(self.held)) if at not in gone]))

    def joined(self, other):
        """A Log of these lines and, behind them, those of the other."""
        behind = len(self.held)
        return Log(self.held + [moved(line, behind) for line in other.held])

    def __len__(self):
        return len(self.held)

    def __eq__(self, other):
        return isinstance(other, Log) and self.held == other.held

    def __str__(self):
        return "".join([line_text(line) for line in self.held])


def is_formed(line):
    """True where the line has a first text that a line can have, and as many things as that one asks for."""
    return len(line) > 0 and THINGS.get(line[0]) == len(line)


def lines_named(line):
    """What the line names as lines."""
    return [line[place] for place in NAMING[line[0]]] if is_formed(line) else []


def lines_ahead(line, at):
    """The lines that the line of number at names and that stand ahead of it."""
    return [name for name in lines_named(line) if 0 <= name < at]


def lines_needed(lines, places):
    """The numbers of the lines at these places and of those of which they are made, rising."""
    needed = {at: True for at in places}
    for at in reversed(range(len(lines))):
        if at in needed:
            for name in lines_ahead(lines[at], at):
                needed[name] = True
    return sorted(needed)


def cut_to(lines, places):
    """A Log of just the lines at these places and those of which they are made."""
    return Log(picked(lines, lines_needed(lines, places)))


def checked_row(line, ahead, known):
    """The row of the line that comes behind those whose rows are ahead; BadLine where it is wrong."""
    at = len(ahead)
    if not is_formed(line) or lines_ahead(line, at) != lines_named(line):
        raise BadLine(at)
    if line[0] == "row":
        if line[1] not in known:
            raise BadLine(at)
        return known[line[1]]
    try:
        return made_row(line, ahead)
    except (BadTimes, NoMark):
        raise BadLine(at) from None


def made_row(line, ahead):
    """The row that the line makes of rows ahead of it."""
    row = ahead[line[1]]
    if line[0] == "add":
        return added(row, ahead[line[3]], line[2], line[4])
    if line[0] == "divide":
        return divided(row, line[2])
    return weakened(row, line[2])


def renamed(line, new_name):
    """The line with the new names of the lines that it names."""
    if not is_formed(line):
        return line
    places = NAMING[line[0]]
    return tuple([new_name(thing) if place in places else thing for place, thing in enumerate(line)])


def picked(lines, places):
    """The lines at these rising places, with their new numbers; the lines of which they are made are among them."""
    news = {}
    out = []
    for place in places:
        # A name that no line ahead has is kept: a line's number never grows here, so a wrong line stays wrong.
        out.append(renamed(lines[place], lambda name: news.get(name, name)))
        news[place] = len(news)
    return out


def moved(line, behind):
    """The line as it stands so many lines further down."""
    # A name below 0 is kept, lest a wrong line come to name a line of the log that it is joined to.
    return renamed(line, lambda name: name + behind if name >= 0 else name)


def line_text(line):
    """The line as a row of a text, with its line feed."""
    words = [thing if isinstance(thing, str) else figures(thing) for thing in line]
    return " ".join(words) + "\n"


def read_log(text):
    """The Log of which this is the text, or BadText with the number of the first wrong row."""
    *rows, rest = text.split("\n")
    lines = []
    for at, row in enumerate(rows):
        if not is_line_text(row):
            raise BadText(at)
        lines.append(read_line(row))
    # What stands behind the last line feed is a row that lacks its own.
    if rest != "":
        raise BadText(len(rows))
    return Log(lines)


def is_line_text(row):
    """True where the row is one that line_text writes, with numbers of nought or more, of at most nine figures."""
    word, *numbers = row.split(" ")
    return THINGS.get(word) == 1 + len(numbers) and all([is_number(number) for number in numbers])


def read_line(row):
    """The line of a row that is_line_text."""
    word, *numbers = row.split(" ")
    return tuple([word] + [int(number) for number in numbers])
