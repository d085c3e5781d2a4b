"""Tracing a barred row back along a trail, to a row from which a search learns."""

from weighrow.spread import sides_told, slack_left

# Without a bound the numbers of learnt rows would double their length again and again.
GREAT = 10 ** 60


def traced(workings, at, trail):
    """The line of a row that is barred where the trail is set, as that of this line is, and is of use ahead of its end.

    At depth 0, where nothing is ahead, it is the line of a row that the sides bar which no row told.
    """
    wants = dict(trail.wants)
    for mark, want, reason, depth in reversed(trail.entries):
        if depth_of_use(workings.row_at(at), trail) < trail.depth:
            break
        del wants[mark]
        weight = weight_of(workings.row_at(at), (mark, 1 - want))
        if reason is not None and weight > 0:
            told = told_once(workings, reason, mark, wants)
            at = kept_small(workings, workings.make(("add", at, 1, told, weight)), wants)
    return at


def depth_of_use(row, trail):
    """The least depth at which the row is barred or tells something; that of the trail where it is not ahead of it."""
    for depth in range(trail.depth):
        wants = trail.wants_at(depth)
        if slack_left(row, wants) < 0 or sides_told(row, wants) != []:
            return depth
    return trail.depth


def weight_of(row, side):
    """The weight of the side in the row, nought where it is not there."""
    return sum([weight for mark, want, weight in row[0] if (mark, want) == side])


def told_once(workings, at, mark, wants):
    """The line of a row made of that of this line, which tells a side of the mark where marks have these wants.

    There the side has the weight 1, and the slack is nought: as often as it is added to a barred row, that one stays
    barred. Rounding up keeps the slack below 1 only where the weights that count for it are divided without a rest.
    """
    loose = loose_mark(workings.row_at(at), mark, wants)
    while loose is not None:
        at = workings.make(("weaken", at, loose))
        # Weakening may have cut other weights, so each time all are looked at anew.
        loose = loose_mark(workings.row_at(at), mark, wants)
    return divided_at(workings, at, weight_at(workings.row_at(at), mark))


def weight_at(row, mark):
    """The weight of the row's term of the mark."""
    return weight_of(row, (mark, 0)) + weight_of(row, (mark, 1))


def loose_mark(row, mark, wants):
    """The first mark whose weight counts for the slack and is no multiple of that of the told mark, or None."""
    by = weight_at(row, mark)
    for place, want, weight in row[0]:
        if wants.get(place, want) == want and weight % by != 0:
            return place
    return None


def divided_at(workings, at, by):
    """The line of the row of this line divided by a number."""
    return at if by == 1 else workings.make(("divide", at, by))


def kept_small(workings, at, wants):
    """The line itself or, where its row is great, one of a row made of it with weights of 1, as barred as it is."""
    if workings.row_at(at)[1] <= GREAT:
        return at
    at = weakened_all(workings, at, wants)
    return divided_at(workings, at, max([weight for mark, want, weight in workings.row_at(at)[0]], default=1))


def weakened_all(workings, at, wants):
    """The line of the row of this line, weakened at each mark whose weight counts for the slack."""
    terms, least = workings.row_at(at)
    for mark, want, weight in terms:
        if wants.get(mark, want) == want:
            at = workings.make(("weaken", at, mark))
    return at
