"""Bounds of what is handed in: how many marks there can be, and how many turns a run can have."""

from weighrow.errors import BadMany, BadTurns

MOST_MARKS = 12
MOST_TURNS = 1000


def check_many(many):
    """BadMany where there cannot be so many marks."""
    if many < 1 or many > MOST_MARKS:
        raise BadMany()


def check_turns(turns):
    """BadTurns where a run cannot have so many turns."""
    if turns < 1 or turns > MOST_TURNS:
        raise BadTurns()
