"""Clauses, and rows led to them with further marks: by a tree of choices, a counter or a sorter."""

from weighrow.errors import TooGreat
from weighrow.rows import plain

MOST_FURTHER = 300
MOST_SORTED = 16
# Sides of no mark: the one is always so, the other never.
SO = (-1, 1)
NEVER = (-1, 0)


class Leading:
    """The clauses to which a row is led, and the further marks that were given out for them."""

    def __init__(self, first):
        self.behind = first
        self.told = []

    def fresh(self):
        """The side of want 1 of a new further mark."""
        side = (self.behind, 1)
        self.behind += 1
        return side

    def tell(self, sides):
        """Tells that one of the sides, of unlike marks, is so."""
        if SO not in sides:
            self.told.append(tuple(sorted([side for side in sides if side != NEVER])))

    def ended(self, side):
        """Tells that this side is so; the clauses are told, and the number behind the last further mark."""
        self.tell([side])
        return (list(self.told), self.behind)


def clause_row(clause):
    """The row that is so where the clause is."""
    return plain([(mark, want, 1) for mark, want in clause], 1)


def clause_so(clause, way):
    """True where some side of the clause is so in the way."""
    return any([way[mark] == want for mark, want in clause])


def other_side(side):
    """The side that is so where this one is not."""
    mark, want = side
    return (mark, 1 - want)


def by_tree(row, first):
    """Clauses with a further mark for each term and each number that may still be needed and reached there."""
    return by_choices(row, first, tree_numbers(row))


def by_counter(row, first):
    """Clauses with a further mark for each term and each number from 1 to least."""
    terms, least = row
    if len(terms) * least > MOST_FURTHER:
        raise TooGreat()
    return by_choices(row, first, [list(range(1, least + 1)) for term in terms])


def tree_numbers(row):
    """For each term the numbers that may still be needed there and are not above what the weights from there come to.

    Only such numbers lead to others of them, so they are found from term to term, and too many are refused at once.
    """
    terms, least = row
    rest = sum([weight for mark, want, weight in terms])
    numbers = [least] if 0 < least <= rest else []
    levels = []
    further = 0
    for mark, want, weight in terms:
        levels.append(numbers)
        further += len(numbers)
        if further > MOST_FURTHER:
            raise TooGreat()
        rest -= weight
        both = numbers + [number - weight for number in numbers]
        numbers = [number for number in sorted(set(both)) if 0 < number <= rest]
    return levels


def by_choices(row, first, levels):
    """Clauses with a further mark for each term and each number of its level.

    The mark is 1 just where the weights from that term on whose sides are so come to the number or more.
    """
    terms, least = row
    leading = Leading(first)
    nodes = {}
    for at, numbers in enumerate(levels):
        for number in numbers:
            nodes[(at, number)] = leading.fresh()
    for at, number in nodes:
        mark, want, weight = terms[at]
        high = node_of(nodes, at + 1, number - weight)
        low = node_of(nodes, at + 1, number)
        tell_choice(leading, nodes[(at, number)], (mark, want), high, low)
    return leading.ended(node_of(nodes, 0, least))


def node_of(nodes, at, number):
    """The side that is so where the weights from that term on come to the number or more."""
    return SO if number < 1 else nodes.get((at, number), NEVER)


def tell_choice(leading, node, side, high, low):
    """Tells that the node is so just where high is, if the side is so, and just where low is, if it is not."""
    # Where low is so, high is: so the first and the last clause hold whatever the side is. Without it in them spreading
    # finds all that the row tells.
    leading.tell([other_side(node), high])
    leading.tell([other_side(node), side, low])
    leading.tell([node, other_side(side), other_side(high)])
    leading.tell([node, other_side(low)])


def by_sorter(row, first):
    """Clauses that sort the sides, each as often as it weighs, so that those that are so come first."""
    terms, least = row
    if sum([weight for mark, want, weight in terms]) > MOST_SORTED:
        raise TooGreat()
    leading = Leading(first)
    sides = [(mark, want) for mark, want, weight in terms for time in range(weight)]
    if least < 1:
        return leading.ended(SO)
    if least > len(sides):
        return leading.ended(NEVER)
    return leading.ended(sorted_sides(leading, sides)[least - 1])


def sorted_sides(leading, sides):
    """As many sides, of which so many are so as of these, those that are so first."""
    half = len(sides) // 2
    if half == 0:
        return sides
    return merged(leading, sorted_sides(leading, sides[:half]), sorted_sides(leading, sides[half:]))


def merged(leading, one, other):
    """The sides of two sorted lists in one sorted list."""
    if one == [] or other == []:
        return one + other
    if len(one) == 1 and len(other) == 1:
        return compared(leading, one[0], other[0])
    # Of the sides at even places at least as many are so as of the others, and at most two more.
    evens = merged(leading, one[::2], other[::2])
    odds = merged(leading, one[1::2], other[1::2])
    out = evens[:1]
    for even, odd in zip(evens[1:], odds):
        out.extend(compared(leading, even, odd))
    return out + evens[len(odds) + 1:] + odds[len(evens) - 1:]


def compared(leading, one, other):
    """Two sides: one that is so where either of these is, and one that is so where both are."""
    if one == other:
        return [one, other]
    high = leading.fresh()
    low = leading.fresh()
    leading.tell([high, other_side(one)])
    leading.tell([high, other_side(other)])
    leading.tell([other_side(high), one, other])
    leading.tell([other_side(low), one])
    leading.tell([other_side(low), other])
    leading.tell([low, other_side(one), other_side(other)])
    return [high, low]
