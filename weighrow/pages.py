"""Pages: all by which books are equal, as a text."""

from weighrow.book import new_book
from weighrow.bounds import check_goal, check_many, check_room, check_terms
from weighrow.errors import BadText, RowError
from weighrow.figures import figures
from weighrow.rows import is_plain, marks_rise
from weighrow.texts import read_number, read_parts, read_side, read_terms, row_text, side_texts, terms_text

MOST_FIGURES = 60
# What is due next on a page.
HEAD = "head"
BODY = "body"
FOOT = "foot"
NOTHING = "nothing"


class Sheet:
    """What has been read of a page so far; a row that is wrong is refused with some RowError."""

    def __init__(self):
        self.due = HEAD
        self.many = 0
        self.following = 0
        self.given = []
        self.wished = []
        self.aims = []

    def read_row(self, row):
        """Takes the next row of the page."""
        word, *rest = row.split(" ")
        if self.due == HEAD and word == "marks":
            self.read_head(rest)
        elif self.due == BODY and word == "wish":
            self.read_wishes(rest)
        elif self.due == BODY:
            self.read_numbered(word, " ".join(rest))
        elif self.due == FOOT and word == "goal":
            self.read_goal(rest)
        else:
            raise BadText(0)

    def read_head(self, words):
        """Takes the count of marks and the number that comes next."""
        if len(words) != 2:
            raise BadText(0)
        self.many = read_number(words[0], MOST_FIGURES)
        self.following = read_number(words[1], MOST_FIGURES)
        check_many(self.many)
        if self.following < 1:
            raise BadText(0)
        self.due = BODY

    def read_numbered(self, word, text):
        """Takes a row of the book with its number."""
        number = read_number(word, MOST_FIGURES)
        terms, sign, least = read_parts(text, MOST_FIGURES)
        row = (tuple(terms), least)
        above = 0 if self.given == [] else self.given[-1][0]
        if number <= above or number >= self.following or sign != ">=" or not is_plain(row):
            raise BadText(0)
        check_terms(self.many, terms)
        self.given.append((number, row))
        check_room(len(self.given))

    def read_wishes(self, words):
        """Takes the sides that are wished."""
        self.wished = [read_side(word) for word in words]
        terms = [(mark, want, 1) for mark, want in self.wished]
        check_terms(self.many, terms)
        if not marks_rise(terms):
            raise BadText(0)
        self.due = FOOT

    def read_goal(self, words):
        """Takes the terms of the goal."""
        self.aims = [] if words == [] else read_terms(" ".join(words), MOST_FIGURES)
        check_goal(self.many, self.aims)
        self.due = NOTHING


def page(book):
    """The text of the book."""
    goal = book.goal_terms()
    out = ["marks " + figures(book.marks()) + " " + figures(book.coming())]
    out += [figures(number) + " " + row_text(row) for number, row in book.rows()]
    out.append(" ".join(["wish"] + side_texts(book.wishes())))
    out.append("goal" if goal == [] else "goal " + terms_text(goal))
    return "".join([row + "\n" for row in out])


def read_page(text):
    """The Book of which this is the page, or BadText with the number of the first wrong row."""
    *rows, rest = text.split("\n")
    sheet = Sheet()
    for at, row in enumerate(rows):
        try:
            sheet.read_row(row)
        except RowError:
            raise BadText(at) from None
    # The row behind these lacks, or lacks its line feed, or is one too many.
    if rest != "" or sheet.due != NOTHING:
        raise BadText(len(rows))
    return new_book(sheet.many, sheet.given, sheet.wished, sheet.aims, sheet.following)
