"""A desk: a book that is kept by lines of text, each of which is answered by a text."""

from weighrow.book import Book
from weighrow.errors import BadText, Missing, RowError
from weighrow.figures import figures
from weighrow.hunt import YES
from weighrow.pages import page
from weighrow.texts import read_bounds, read_letter, read_number, read_side, read_terms, side_texts

DONE = "done"
NONE = "none"
ALWAYS = "always"
WHAT = "what"
REFUSED = "no: "


class Desk:
    """A book of so many marks that answers lines."""

    def __init__(self, many=4):
        self.kept = Book(many)

    def say(self, line):
        """The answer to the line."""
        try:
            return answered(self.kept, line)
        except BadText:
            return WHAT
        except (RowError, Missing) as refusal:
            return REFUSED + refusal.called

    def book(self):
        """A twin of the book."""
        return self.kept.twin()


def put_line(book, text):
    """The numbers of the rows of a relation."""
    bounds = read_bounds(text)
    # Asked ahead of the first put, as either all rows of the relation come or none does.
    book.check_put(bounds[0][0], len(bounds))
    numbers = []
    for terms, least in bounds:
        numbers.append(figures(book.put(terms, least)))
    return " ".join(numbers)


def take_line(book, text):
    """A row is taken by its number."""
    book.take(read_number(text))
    return DONE


def wish_line(book, text):
    """A side is wished."""
    mark, want = read_side(text)
    book.wish(mark, want)
    return DONE


def free_line(book, text):
    """The wish of a letter is freed."""
    book.free(read_letter(text))
    return DONE


def goal_line(book, text):
    """A goal of one term at least."""
    book.goal(read_terms(text))
    return DONE


def run_line(book, text):
    """The word behind so many turns."""
    return book.run(read_number(text))


def no_goal_line(book):
    """The goal is none."""
    book.goal([])
    return DONE


def undo_line(book):
    """The last deed is taken back."""
    book.undo()
    return DONE


def redo_line(book):
    """What was taken back last is done again."""
    book.redo()
    return DONE


def ask_line(book):
    """Whether rows and wishes can be: the sides of a way, or the wishes that were needed to bar them."""
    told = book.answer()
    sides = list(enumerate(told[1])) if told[0] == YES else told[1]
    return " ".join([told[0]] + side_texts(sides))


def clash_line(book):
    """The least clash, if there is one, and if it has wishes."""
    sides = book.clash()
    if sides is None:
        return NONE
    return ALWAYS if sides == [] else " ".join(side_texts(sides))


def least_line(book):
    """The least of the goal, if there is one."""
    least = book.least()
    return NONE if least is None else figures(least)


def count_line(book):
    """How many ways have all rows."""
    return figures(book.count())


def rows_line(book):
    """How many rows there are."""
    return figures(len(book))


def page_line(book):
    """The page of the book."""
    return page(book)


LINES = {"put": put_line, "take": take_line, "wish": wish_line, "free": free_line, "goal": goal_line, "run": run_line}
LONE_LINES = {
    "goal": no_goal_line, "undo": undo_line, "redo": redo_line, "ask": ask_line, "clash": clash_line,
    "least": least_line, "count": count_line, "rows": rows_line, "page": page_line,
}


def answered(book, line):
    """The answer of the book to the line; BadText where it has none of the forms that are answered."""
    word, blank, text = line.partition(" ")
    if blank == "" and word in LONE_LINES:
        lone = LONE_LINES[word]
        return lone(book)
    if blank != "" and word in LINES:
        action = LINES[word]
        return action(book, text)
    raise BadText(0)
