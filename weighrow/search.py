"""Searching: a way in which all rows and wishes are so, or a log that shows that there is none."""

from weighrow.bounds import check_many, check_turns
from weighrow.errors import NoWay
from weighrow.hunt import NO, YES, new_hunt, numbered_rows, rising_choices


class Search:
    """A search among rows, numbered from 1 in their order, that is run by turns."""

    def __init__(self, many, rows, wishes=None):
        check_many(many)
        self.hunt = new_hunt(rising_choices(many), numbered_rows(rows), wishes)

    def run(self, turns=1):
        """Runs for so many turns; the word is told."""
        check_turns(turns)
        self.hunt.go_on(turns)
        return self.word()

    def word(self):
        """How it stands: halted, yes or no."""
        return self.hunt.found

    def way(self):
        """A way in which all rows and wishes are so; NoWay where it has not ended with yes."""
        if self.hunt.found != YES:
            raise NoWay()
        return self.hunt.way()

    def clash(self):
        """The wishes, rising, that bar the last row of the log; NoWay where it has not ended with no."""
        if self.hunt.found != NO:
            raise NoWay()
        return self.hunt.clash()

    def log(self):
        """A Log from the rows down to one that the clash bars; NoWay where it has not ended with no."""
        if self.hunt.found != NO:
            raise NoWay()
        return self.hunt.log()

    def learnt(self):
        """The learnt rows, the eldest first, each with the numbers of the rows on which it leans."""
        return self.hunt.learnt()

    def twin(self):
        """A Search that stands as this one does and goes its own way from now on."""
        other = Search(1, [])
        other.hunt = self.hunt.copied()
        return other


def answer(many, rows, wishes=None):
    """("yes", way) or ("no", clash, log): what a Search of these tells at its end."""
    check_many(many)
    return answer_by_numbers(many, numbered_rows(rows), wishes)


def answer_by_numbers(many, given, wishes):
    """The same of given rows, pairs (number, row), with a log from these numbers."""
    hunt = new_hunt(rising_choices(many), given, wishes)
    hunt.go_to_end()
    if hunt.found == YES:
        return (YES, hunt.way())
    return (NO, hunt.clash(), hunt.log())


def least_clash(many, rows, wishes):
    """Wishes, rising, that clash with the rows, none of which can be left out; None where some way has all."""
    told = answer(many, rows, wishes)
    if told[0] == YES:
        return None
    kept = told[1]
    for side in list(kept):
        told = answer(many, rows, [other for other in kept if other != side])
        if told[0] == NO:
            kept = told[1]
    return kept
