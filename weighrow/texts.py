"""Texts of sides, terms, rows and relations, written and read."""

from weighrow.errors import BadText
from weighrow.figures import figures, is_number
from weighrow.rows import plain

LETTERS = "abcdefghijkl"
SIGNS = (">=", "<=", "=")


def side_text(side):
    """The letter of the side's mark, with a sign ahead where its want is 0."""
    mark, want = side
    return LETTERS[mark] if want == 1 else "-" + LETTERS[mark]


def side_texts(sides):
    """The text of each of the sides."""
    return [side_text(side) for side in sides]


def terms_text(terms):
    """The terms, with a plus between them."""
    return " + ".join([figures(weight) + " " + side_text((mark, want)) for mark, want, weight in terms])


def row_text(row):
    """The row, as in `3 a + 2 -b >= 4`."""
    terms, least = row
    ahead = "0" if len(terms) == 0 else terms_text(terms)
    return ahead + " >= " + figures(least)


def read_letter(text):
    """The mark of the letter."""
    # Several letters that stand side by side in LETTERS are in it, too, and so is the empty text.
    if len(text) != 1 or text not in LETTERS:
        raise BadText(0)
    return LETTERS.index(text)


def read_side(text):
    """The side of which this is the text."""
    return (read_letter(text.removeprefix("-")), 0 if text.startswith("-") else 1)


def read_number(text, most=9):
    """The number, nought or above, of at most so many figures."""
    if not is_number(text, most):
        raise BadText(0)
    return int(text)


def read_signed(text, most):
    """The number, with a sign ahead where it is below nought, of at most so many figures."""
    if not text.startswith("-"):
        return read_number(text, most)
    number = read_number(text.removeprefix("-"), most)
    if number == 0:
        raise BadText(0)
    return -number


def read_term(text, most):
    """The term of a weight of at most so many figures, not nought, a blank and a side."""
    words = text.split(" ")
    if len(words) != 2 or words[0] == "0":
        raise BadText(0)
    mark, want = read_side(words[1])
    return (mark, want, read_signed(words[0], most))


def read_terms(text, most=9):
    """The terms, one at least, as they are written."""
    return [read_term(part, most) for part in text.split(" + ")]


def read_parts(text, most=9):
    """The terms, the sign and the number of a relation, as they are written."""
    ahead, blank, number = text.rpartition(" ")
    written, blank, sign = ahead.rpartition(" ")
    if sign not in SIGNS:
        raise BadText(0)
    terms = [] if written == "0" else read_terms(written, most)
    return (terms, sign, read_signed(number, most))


def read_bounds(text):
    """A pair (terms, least), as the terms are written, for each row of a relation."""
    terms, sign, number = read_parts(text)
    low = (terms, number)
    high = ([(mark, want, -weight) for mark, want, weight in terms], -number)
    if sign == "=":
        return [low, high]
    return [low] if sign == ">=" else [high]


def read_relation(text):
    """The plain rows to which the relation comes: one, or two where it is `=`."""
    return [plain(terms, least) for terms, least in read_bounds(text)]
