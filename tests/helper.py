"""What several tests use: ways, rows by rule, and rows that are far from plain."""

from itertools import product

from weighrow.rows import plain

ALWAYS = ((), 0)
BAR = ((), 1)
HUGE = 10 ** 30 + 7


def all_ways(many):
    return [list(way) for way in product((0, 1), repeat=many)]


def comes_to(terms, way):
    """What the weights of the terms whose sides are so come to, by the words of [4]."""
    return sum(weight for mark, want, weight in terms if way[mark] == want)


def numbers(seed):
    """An endless run of numbers that is the same each time."""
    while True:
        seed = (seed * 1103515245 + 12345) % 2 ** 31
        yield seed >> 8


def term_lists(count, many, span, seed=1):
    """So many pairs (terms, least) of any order, any sign, with marks that come again and on both sides."""
    run = numbers(seed)
    out = []
    for at in range(count):
        terms = [(next(run) % many, next(run) % 2, next(run) % (2 * span + 1) - span) for step in range(at % 8)]
        out.append((terms, next(run) % (3 * span) - span))
    return out


def plain_rows(count, many, span=5, seed=1):
    """So many plain rows, the two without terms among them."""
    return [ALWAYS, BAR] + [plain(terms, least) for terms, least in term_lists(count, many, span, seed)]


def loose_rows(count, many, seed=1):
    """So many plain rows, each of which is so in some way and not in all."""
    run = numbers(seed)
    out = []
    for at in range(count):
        terms = [(mark, next(run) % 2, 1 + next(run) % 4) for mark in range(many) if next(run) % 2]
        if terms:
            out.append(plain(terms, 1 + next(run) % sum(weight for mark, want, weight in terms)))
    return out


def side_lists(many):
    """Each list of sides of unlike marks below many, rising."""
    out = []
    for wants in product((None, 0, 1), repeat=many):
        out.append([(mark, want) for mark, want in enumerate(wants) if want is not None])
    return out
