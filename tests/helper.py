"""What several tests use: ways, rows by rule, rows that are far from plain, and books."""

from itertools import product

from weighrow.book import Book
from weighrow.rows import plain

ALWAYS = ((), 0)
BAR = ((), 1)
HUGE = 10 ** 30 + 7


def all_ways(many):
    return [list(way) for way in product((0, 1), repeat=many)]


def comes_to(terms, way):
    """What the weights of the terms whose sides are so come to, by the words of [4]."""
    return sum(weight for mark, want, weight in terms if way[mark] == want)


def numbers(seed):
    """An endless run of numbers that is the same each time."""
    while True:
        seed = (seed * 1103515245 + 12345) % 2 ** 31
        yield seed >> 8


def term_lists(count, many, span, seed=1):
    """So many pairs (terms, least) of any order, any sign, with marks that come again and on both sides."""
    run = numbers(seed)
    out = []
    for at in range(count):
        terms = [(next(run) % many, next(run) % 2, next(run) % (2 * span + 1) - span) for step in range(at % 8)]
        out.append((terms, next(run) % (3 * span) - span))
    return out


def plain_rows(count, many, span=5, seed=1):
    """So many plain rows, the two without terms among them."""
    return [ALWAYS, BAR] + [plain(terms, least) for terms, least in term_lists(count, many, span, seed)]


def loose_rows(count, many, seed=1):
    """So many plain rows, each of which is so in some way and not in all."""
    run = numbers(seed)
    out = []
    for at in range(count):
        terms = [(mark, next(run) % 2, 1 + next(run) % 4) for mark in range(many) if next(run) % 2]
        if terms:
            out.append(plain(terms, 1 + next(run) % sum(weight for mark, want, weight in terms)))
    return out


def side_lists(many):
    """Each list of sides of unlike marks below many, rising."""
    out = []
    for wants in product((None, 0, 1), repeat=many):
        out.append([(mark, want) for mark, want in enumerate(wants) if want is not None])
    return out


def so_ways(many, rows, wishes=()):
    """All ways, by the words of [4], in which all rows and wishes are so."""
    return [
        way for way in all_ways(many)
        if all(comes_to(terms, way) >= least for terms, least in rows)
        and all(way[mark] == want for mark, want in wishes)
    ]


def numbered_from_1(rows):
    return list(enumerate(rows, start=1))


def clause_of(*sides):
    """The row that one of the sides is so."""
    return plain([(mark, want, 1) for mark, want in sides], 1)


def pigeons(birds, holes, by_pairs):
    """Rows that each bird has a hole, and no two birds the same; of bird and hole by the mark bird * holes + hole."""
    rows = [clause_of(*((bird * holes + hole, 1) for hole in range(holes))) for bird in range(birds)]
    for hole in range(holes):
        marks = [bird * holes + hole for bird in range(birds)]
        if by_pairs:
            rows += [clause_of((one, 0), (other, 0)) for one in marks for other in marks if one < other]
        else:
            rows.append(plain([(mark, 0, 1) for mark in marks], birds - 1))
    return rows


def halved(weights):
    """Two rows that the weights of the marks that are 1 come to just half of all, rounded down."""
    terms = [(mark, 1, weight) for mark, weight in enumerate(weights)]
    half = sum(weights) // 2
    return [plain(terms, half), plain([(mark, want, -weight) for mark, want, weight in terms], -half)]


def mixed_rows(seed, many):
    """A few rows for a search: loose ones and, now and then, one that is always so, never so, or the bar."""
    rows = loose_rows(1 + seed % 6, many, seed)
    odd_ones = {3: ALWAYS, 7: (((many - 1, 1, 2),), 3), 9: BAR}
    if seed % 10 in odd_ones:
        rows.insert(seed % (len(rows) + 1), odd_ones[seed % 10])
    return rows


def looks(book):
    """All that a book tells, but for what a deed would tell."""
    return (
        book.marks(), book.rows(), book.wishes(), book.goal_terms(), book.coming(), book.word(), book.learnt(),
        book.learnt_log(), book.answer(), book.clash(), book.least(), book.count(), len(book), repr(book),
    )


def book_of(many, rows, wishes=(), goal=()):
    """A book in which these were put, wished and aimed at, one deed each."""
    book = Book(many)
    for terms, least in rows:
        book.put(list(terms), least)
    for mark, want in wishes:
        book.wish(mark, want)
    if goal:
        book.goal(list(goal))
    return book


def run_to_end(book):
    """Runs the book's search until it ends; told is its word."""
    for step in range(100):
        if book.run(1000) != "halted":
            return book.word()
    raise AssertionError("it does not end")
