"""Bounds of what is handed in: how many marks, turns and rows there can be, and which terms."""

from weighrow.errors import BadMany, BadTerm, BadTurns, Full
from weighrow.rows import marks_rise

MOST_MARKS = 12
MOST_ROWS = 40
MOST_TURNS = 1000


def check_many(many):
    """BadMany where there cannot be so many marks."""
    if many < 1 or many > MOST_MARKS:
        raise BadMany()


def check_turns(turns):
    """BadTurns where a run cannot have so many turns."""
    if turns < 1 or turns > MOST_TURNS:
        raise BadTurns()


def check_room(count):
    """Full where a book cannot have so many rows."""
    if count > MOST_ROWS:
        raise Full()


def check_terms(many, terms):
    """BadTerm where a term has none of so many marks, or a want that cannot be."""
    for mark, want, weight in terms:
        if not has_mark(many, mark) or not is_want(want):
            raise BadTerm()


def check_goal(many, terms):
    """BadTerm where the terms are no goal of so many marks."""
    check_terms(many, terms)
    if not marks_rise(terms) or any([weight < 1 for mark, want, weight in terms]):
        raise BadTerm()


def has_mark(many, mark):
    """True where the mark is one of so many."""
    return 0 <= mark < many


def is_want(want):
    """True where a mark can be that."""
    return want in (0, 1)
