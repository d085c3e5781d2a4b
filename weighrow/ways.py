"""Counting: the ways of so many marks in which all rows are so, by their numbers."""

from weighrow.bounds import check_many
from weighrow.errors import NoWay
from weighrow.rows import is_so


def ways(many, rows):
    """All ways of so many marks in which all rows are so, as lists are ordered."""
    check_many(many)
    found = [[]]
    for mark in range(many):
        found = [way + [want] for way in found for want in (0, 1)]
    for row in rows:
        found = [way for way in found if is_so(row, way)]
    return found


def count(many, rows):
    """How many ways there are."""
    return len(ways(many, rows))


def number_of(many, rows, way):
    """The number of the way, from 0; NoWay where it is none in which all rows are so."""
    found = ways(many, rows)
    if way not in found:
        raise NoWay()
    return found.index(way)


def numbered(many, rows, number):
    """The way of that number; NoWay where there is none."""
    found = ways(many, rows)
    if number < 0 or number >= len(found):
        raise NoWay()
    return found[number]
