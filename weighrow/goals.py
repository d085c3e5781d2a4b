"""Goals: the least that one can come to, with a way that comes to it and a log that bars less."""

from weighrow.bounds import check_many
from weighrow.hunt import NO, YES, Hunt, new_hunt, numbered_rows, rising_choices
from weighrow.rows import plain
from weighrow.spread import slack


def comes_to(goal, way):
    """The weights of the goal's terms whose sides are so in the way, together."""
    return sum([weight for mark, want, weight in goal if way[mark] == want])


def under(goal, worth):
    """The row that the goal comes to less than worth."""
    return plain([(mark, want, -weight) for mark, want, weight in goal], 1 - worth)


def by_bounds(many, rows, goal):
    """(least, way, log), found from one way to a better one; None where no way has all rows."""
    check_many(many)
    choices = choices_against(goal, many)
    given = numbered_rows(rows)
    hunt = ended(new_hunt(choices, given))
    if hunt.found == NO:
        return None
    way = hunt.way()
    while hunt.found == YES:
        way = hunt.way()
        hunt = ended(new_hunt(choices, given + [(0, under(goal, comes_to(goal, way)))]))
    return (comes_to(goal, way), way, hunt.log())


def by_cores(many, rows, goal):
    """(least, way, log), found from clashing wishes upward; None where no way has all rows."""
    check_many(many)
    hunt = ended(new_hunt(rising_choices(many), numbered_rows(rows)))
    if hunt.found == NO:
        return None
    hunt = first_upward(hunt, goal)
    way = hunt.way()
    least = comes_to(goal, way)
    less = hunt.workings.give(0, under(goal, least))
    return (least, way, ended(next_hunt(hunt, [less], [])).log())


def ended(hunt):
    """The hunt, at its end."""
    hunt.go_to_end()
    return hunt


def next_hunt(hunt, lines, wishes):
    """A Hunt of all that stands in this one, what it learnt too, and of some lines more."""
    return Hunt(hunt.choices, hunt.workings, hunt.standing + lines, wishes)


def choices_against(goal, many):
    """The choices that keep the goal low: the other sides of its terms, the weightiest first, then all other marks."""
    falling = sorted(goal, key=lambda term: -term[2])
    named = [mark for mark, want, weight in goal]
    return [(mark, 1 - want) for mark, want, weight in falling] + [
        side for side in rising_choices(many) if side[0] not in named
    ]


def first_upward(hunt, goal):
    """A hunt that ended with yes, with the first of the wishes upward that do not clash with what stands."""
    cores = []
    for wishes in wishes_upward(goal):
        # A row that was barred by other wishes may bar these, too, without a search.
        if any([slack(core, wishes) < 0 for core in cores]):
            continue
        hunt = ended(next_hunt(hunt, [], wishes))
        if hunt.found == YES:
            break
        cores.append(hunt.workings.row_at(hunt.last))
        hunt.let_stand(hunt.last)
    return hunt


def wishes_upward(goal):
    """For each choice of terms the wishes that no other terms are so, by rising weights of the chosen ones."""
    pairs = [(0, [])]
    for mark, want, weight in goal:
        without = [(worth, wishes + [(mark, 1 - want)]) for worth, wishes in pairs]
        pairs = without + [(worth + weight, wishes) for worth, wishes in pairs]
    return [wishes for worth, wishes in sorted(pairs, key=lambda pair: pair[0])]
