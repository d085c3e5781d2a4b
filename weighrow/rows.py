"""Rows of weighted marks: made plain, asked, added, divided, weakened and turned."""

from weighrow.errors import BadTimes, NoMark

LAST_MARK = 9999
ALWAYS = ((), 0)
BAR = ((), 1)


def plain(terms, least):
    """The one plain row to which the terms and the least come."""
    net = {}
    for mark, want, weight in terms:
        if want == 1:
            net[mark] = net.get(mark, 0) + weight
        else:
            # What a mark lacks to one weighs as much as one, less what the mark itself weighs.
            net[mark] = net.get(mark, 0) - weight
            least -= weight
    least -= sum([net[mark] for mark in net if net[mark] < 0])
    if least < 1:
        return ALWAYS
    kept = [one_sided(mark, net[mark], least) for mark in sorted(net) if net[mark] != 0]
    if kept == []:
        return BAR
    return (tuple(kept), least)


def one_sided(mark, weight, least):
    """The plain term of a mark whose weights of either side come to this one, not nought, together."""
    if weight > 0:
        return (mark, 1, min(weight, least))
    return (mark, 0, min(-weight, least))


def is_plain(row):
    """True where the row is one that plain could have made."""
    terms, least = row
    if len(terms) == 0:
        return least in (0, 1)
    # A weight from 1 to least leaves no least below 1.
    return marks_rise(terms) and all([is_plain_term(term, least) for term in terms])


def marks_rise(terms):
    """True where each mark is above the one ahead of it."""
    marks = [mark for mark, want, weight in terms]
    return all([low < high for low, high in zip(marks, marks[1:])])


def is_plain_term(term, least):
    """True where the term can stand in a plain row of this least."""
    mark, want, weight = term
    return 0 <= mark <= LAST_MARK and want in (0, 1) and 1 <= weight <= least


def is_so(row, way):
    """True where the row is so in the way."""
    terms, least = row
    return sum([weight for mark, want, weight in terms if way[mark] == want]) >= least


def added(one, other, times=1, more=1):
    """The sum of one row taken times and the other taken more times."""
    if times < 1 or more < 1:
        raise BadTimes()
    terms = taken(one, times) + taken(other, more)
    return plain(terms, one[1] * times + other[1] * more)


def taken(row, times):
    """The terms of the row, each weight taken so often."""
    return [(mark, want, weight * times) for mark, want, weight in row[0]]


def divided(row, by=2):
    """The row with each weight and its least divided and rounded up."""
    if by < 1:
        raise BadTimes()
    terms, least = row
    return plain([(mark, want, rounded_up(weight, by)) for mark, want, weight in terms], rounded_up(least, by))


def rounded_up(number, by):
    """The least whole number that is not below number divided by by."""
    return -(-number // by)


def weakened(row, mark):
    """The row without its term of the mark, and with a least that is less by that term's weight."""
    terms, least = row
    gone = [weight for place, want, weight in terms if place == mark]
    if gone == []:
        raise NoMark()
    return plain([term for term in terms if term[0] != mark], least - gone[0])


def turned(row):
    """The plain row that is so in just those ways in which this one is not."""
    terms, least = row
    # Short of least by 1 or more, the sides that are not so have all the weights but least - 1, or more.
    missed = sum([weight for mark, want, weight in terms]) - least + 1
    return plain([(mark, 1 - want, weight) for mark, want, weight in terms], missed)
