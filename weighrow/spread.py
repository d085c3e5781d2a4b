"""Spreading: what rows tell where some sides are set."""


def slack(row, sets=None):
    """What the terms of the row can still come to, less its least."""
    return slack_left(row, wants_set(sets))


def tells(row, sets=None):
    """The sides that the row tells, rising by marks; none where it is barred."""
    return sides_told(row, wants_set(sets))


def spread(rows, sets=None):
    """All sides that are set at last, rising by marks, or None where some row is barred."""
    wants = wants_set(sets)
    against = rows_against(rows)
    waiting = list(range(len(rows)))
    while waiting != []:
        news = []
        for place in waiting:
            if slack_left(rows[place], wants) < 0:
                return None
            told = sides_told(rows[place], wants)
            wants.update(wants_set(told))
            news.extend(told)
        # A row that no new side goes against tells no more than it told ahead of it.
        waiting = rows_touched(against, news)
    return [(mark, wants[mark]) for mark in sorted(wants)]


def wants_set(sets):
    """The wants of the sides that are set, by their marks."""
    return {} if sets is None else {mark: want for mark, want in sets}


def slack_left(row, wants):
    """The slack of the row where marks have these wants."""
    terms, least = row
    return sum([weight for mark, want, weight in terms if wants.get(mark, want) == want]) - least


def sides_told(row, wants):
    """The sides that the row tells where marks have these wants; none where it is barred."""
    left = slack_left(row, wants)
    if left < 0:
        return []
    return [(mark, want) for mark, want, weight in row[0] if mark not in wants and weight > left]


def rows_against(rows):
    """For each side the places of the rows whose slack it lessens: those with a term of its other side."""
    against = {}
    for place, row in enumerate(rows):
        for mark, want, weight in row[0]:
            against.setdefault((mark, 1 - want), []).append(place)
    return against


def rows_touched(against, sides):
    """The places of the rows that some of these sides go against, each once."""
    touched = {}
    for side in sides:
        for place in against.get(side, []):
            touched[place] = True
    return list(touched)
