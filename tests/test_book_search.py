"""Point [18], and points [11], [12], [13] and [16] of a book: its search, what it keeps, and what it answers."""

import unittest

from tests.helper import (
    ALWAYS, BAR, book_of, clause_of, comes_to, halved, looks, mixed_rows, numbers, pigeons, run_to_end, side_lists,
    so_ways,
)
from weighrow.book import Book
from weighrow.errors import BadTerm, BadTurns, BadWant, Full, NoMark, NoRow, NoWish, Wished
from weighrow.logs import Log
from weighrow.rows import is_plain, is_so
from weighrow.search import Search, answer
from weighrow.spread import slack

LONG = halved([123, 229, 331, 437, 541, 643, 747, 854, 1001])
# Two troubles that have nothing to do with one another, with a way out of each.
APART = [
    clause_of((0, 1), (1, 1), (2, 1)), clause_of((0, 1), (1, 1), (2, 0)),
    clause_of((3, 1), (4, 1), (5, 1)), clause_of((3, 1), (4, 1), (5, 0)),
]


def rows_of(book):
    return [row for number, row in book.rows()]


def ways_of(book, wishes=()):
    return so_ways(book.marks(), rows_of(book), wishes)


class Checking(unittest.TestCase):
    def check_learnt(self, book):
        """Each learnt row is some line's row of the log, leans as it is told to, and is so where these rows are."""
        log = book.learnt_log()
        self.assertIsInstance(log, Log)
        made = list(zip(log.rows(book.rows()), log.leans()))
        given = dict(book.rows())
        for row, leans in book.learnt():
            self.assertTrue(is_plain(row), row)
            self.assertIs(type(leans), tuple)
            self.assertEqual(list(leans), sorted(set(leans)))
            self.assertTrue(set(leans) <= set(given), (leans, list(given)))
            self.assertIn((row, leans), made)
            for way in so_ways(book.marks(), [given[number] for number in leans]):
                self.assertTrue(is_so(row, way))

    def check_end(self, book):
        """Run to its end on a twin, the search ends as all ways say."""
        twin = book.twin()
        self.assertEqual(run_to_end(twin), "yes" if ways_of(book, book.wishes()) else "no")
        self.check_learnt(twin)

    def check_answers(self, book):
        before = looks(book)
        told = book.answer()
        ways = ways_of(book, book.wishes())
        if ways:
            self.assertEqual((told[0], len(told)), ("yes", 2))
            self.assertIn(told[1], ways)
            self.assertIsNone(book.clash())
        else:
            self.check_no(book, told)
            self.check_clash(book, book.clash())
        self.assertEqual(book.count(), len(ways_of(book)))
        worths = [comes_to(book.goal_terms(), way) for way in ways_of(book)]
        self.assertEqual(book.least(), min(worths, default=None))
        self.assertEqual(looks(book), before)

    def check_no(self, book, told):
        word, clash, log = told
        self.assertEqual(word, "no")
        self.assertEqual(clash, sorted(clash))
        self.assertTrue(set(clash) <= set(book.wishes()))
        self.assertLess(slack(log.rows(book.rows())[-1], clash), 0)
        self.assertEqual(clash == [], log.bars(book.rows()))

    def check_clash(self, book, clash):
        self.assertIs(type(clash), list)
        self.assertEqual(clash, sorted(clash))
        self.assertTrue(set(clash) <= set(book.wishes()))
        self.assertEqual(ways_of(book, clash), [])
        for side in clash:
            self.assertNotEqual(ways_of(book, [other for other in clash if other != side]), [])
        if not ways_of(book):
            self.assertEqual(clash, [])


class Begun(Checking):
    """A put, a take, a wish and a freeing: the word is halted, what was learnt is kept."""

    def books(self):
        """Books at each word, with something learnt."""
        halted, no = book_of(9, LONG, [(8, 0)]), book_of(9, LONG, [(8, 0)])
        halted.run(60)
        run_to_end(no)
        yes = book_of(12, [clause_of((0, 1), (1, 1), (2, 1)), clause_of((0, 1), (1, 1), (2, 0)),
                           clause_of((0, 1), (1, 0), (2, 1)), clause_of((8, 1), (9, 1))], [(8, 0)])
        run_to_end(yes)
        self.assertEqual([book.word() for book in (halted, no, yes)], ["halted", "no", "yes"])
        for book in (halted, no, yes):
            self.assertNotEqual(book.learnt(), [])
        return [halted, no, yes]

    def test_begun_anew(self):
        for deed in (
            lambda book: book.put([(0, 1, 1), (1, 1, 1)], 1), lambda book: book.put([], 0),
            lambda book: book.wish(7, 1), lambda book: book.free(8),
        ):
            for book in self.books():
                due = (book.learnt(), book.learnt_log())
                deed(book)
                self.assertEqual(book.word(), "halted")
                self.assertEqual(book.learnt(), due[0])
                self.assertEqual(book.learnt_log().rows(book.rows()), due[1].rows(book.rows()))
                self.check_learnt(book)
                self.check_end(book)

    def test_a_take_lets_go_just_what_leans_on_the_number(self):
        for book in self.books():
            for number, row in book.rows():
                twin = book.twin()
                twin.take(number)
                self.assertEqual(twin.word(), "halted")
                self.assertEqual(twin.learnt(), [pair for pair in book.learnt() if number not in pair[1]])
                self.check_learnt(twin)
                self.check_end(twin)

    def test_a_take_keeps_something_and_lets_something_go(self):
        book = book_of(6, APART)
        self.assertEqual(run_to_end(book), "yes")
        due = [(clause_of((0, 1), (1, 1)), (1, 2)), (clause_of((3, 1), (4, 1)), (3, 4))]
        self.assertEqual(book.learnt(), due)
        for number in (1, 2, 3, 4):
            twin = book.twin()
            twin.take(number)
            self.assertEqual(twin.learnt(), due[1:] if number < 3 else due[:1])
            self.check_learnt(twin)
            self.check_end(twin)
            twin.undo()
            self.assertEqual((twin.learnt(), twin.word()), (due, "yes"))

    def test_a_goal_leaves_word_and_learnt_as_they_were(self):
        for book in self.books():
            due = (book.word(), book.learnt(), book.learnt_log())
            for goal in ([(0, 1, 3)], [(0, 1, 3)], []):
                book.goal(goal)
                self.assertEqual((book.word(), book.learnt(), book.learnt_log()), due)

    def test_what_is_refused_leaves_word_and_learnt_as_they_were(self):
        for book in self.books():
            due = (book.word(), book.learnt(), book.learnt_log())
            for error, call, things in (
                (BadTerm, book.put, ([(12, 1, 1)], 1)), (NoRow, book.take, (99,)), (NoMark, book.wish, (12, 1)),
                (BadWant, book.wish, (0, 2)), (Wished, book.wish, (8, 1)), (NoWish, book.free, (0,)),
                (BadTerm, book.goal, ([(0, 1, 0)],)), (BadTurns, book.run, (0,)),
            ):
                self.assertRaises(error, call, *things)
                self.assertEqual((book.word(), book.learnt(), book.learnt_log()), due)

    def test_full_leaves_the_word(self):
        book = book_of(4, [ALWAYS] * 40)
        run_to_end(book)
        self.assertRaises(Full, book.put, [], 0)
        self.assertEqual(book.word(), "yes")

    def test_run_on_behind_its_end(self):
        for book in self.books()[1:]:
            due = looks(book)
            book.run(1000)
            self.assertEqual(looks(book), due)


class Learnt(Checking):
    def test_in_a_new_book_as_a_search_does(self):
        for many, rows, wishes in ((9, LONG, []), (9, LONG, [(8, 0)]), (12, pigeons(4, 3, True), []), (6, APART, [])):
            book, search = book_of(many, rows, wishes), Search(many, rows, list(wishes))
            while search.word() == "halted":
                self.assertEqual(book.run(7), search.run(7))
                self.assertEqual(book.learnt(), search.learnt())
            self.check_learnt(book)

    def test_runs_in_parts(self):
        one, other = book_of(9, LONG), book_of(9, LONG)
        while one.run(1) == "halted":
            pass
        run_to_end(other)
        self.assertEqual(looks(one), looks(other))

    def test_the_eldest_first(self):
        book = book_of(9, LONG, [(0, 1)])
        book.run(40)
        elder = book.learnt()
        self.assertNotEqual(elder, [])
        book.free(0)
        run_to_end(book)
        self.assertEqual(book.learnt()[:len(elder)], elder)
        self.assertGreater(len(book.learnt()), len(elder))

    def test_numbers_are_the_books_own(self):
        book = Book(9)
        for terms, least in [ALWAYS] + LONG:
            book.put(terms, least)
            book.put([], 0)
        book.take(1)
        book.take(4)
        run_to_end(book)
        self.assertEqual(book.word(), "no")
        self.assertEqual({number for row, leans in book.learnt() for number in leans}, {3, 5})
        self.check_learnt(book)

    def test_a_log_does_not_grow_by_beginning_anew(self):
        book = book_of(9, LONG)
        for mark in range(9):
            book.wish(mark, mark % 2)
            book.run(20)
            book.free(mark)
            book.run(20)
        lines = book.learnt_log().lines()
        self.assertEqual([line for line in lines if line[0] == "row"], [("row", 1), ("row", 2)])
        self.check_learnt(book)
        for mark in range(9):
            book.wish(mark, 1)
        self.assertEqual(book.learnt_log().lines(), lines)

    def test_what_is_learnt_is_of_use_again(self):
        book = book_of(9, LONG)
        run_to_end(book)
        turns = len(book.learnt())
        book.put([], 0)
        steps = 0
        while book.run() == "halted":
            steps += 1
        self.assertLess(steps, turns)

    def test_a_deed_after_another(self):
        """Deeds by rule; behind each the end is that of all ways, whatever was learnt ahead of it."""
        for seed in range(12):
            run = numbers(seed + 1)
            book = Book(5)
            for step in range(25):
                self.one_deed(book, run)
                self.check_learnt(book)
                self.check_end(book)
            self.check_answers(book)

    def one_deed(self, book, run):
        choice, mark = next(run) % 7, next(run) % 5
        if choice < 3 and len(book) < 12:
            terms = [(next(run) % 5, next(run) % 2, next(run) % 9 - 2) for term in range(4)]
            book.put(terms, next(run) % 8)
        elif choice == 3 and len(book) > 0:
            book.take(book.rows()[next(run) % len(book)][0])
        elif choice == 4 and mark not in [place for place, want in book.wishes()]:
            book.wish(mark, next(run) % 2)
        elif choice == 5 and book.wishes() != []:
            book.free(book.wishes()[0][0])
        else:
            book.run(1 + next(run) % 30)


class Answers(Checking):
    def test_all_wishes_of_a_few_marks(self):
        for seed in range(25):
            for wishes in side_lists(3):
                self.check_answers(book_of(3, mixed_rows(seed, 3), wishes, [(0, 1, 2), (2, 0, 3)]))

    def test_as_the_functions_answer(self):
        for rows in (LONG, pigeons(3, 3, False), []):
            for wishes in ([], [(0, 1), (8, 1)]):
                self.assertEqual(book_of(9, rows, wishes).answer(), answer(9, rows, list(wishes)))

    def test_behind_takes(self):
        for seed in range(20):
            rows = mixed_rows(seed, 4)
            book = book_of(4, [BAR] + rows + [BAR] + rows)
            book.take(1)
            book.take(len(rows) + 2)
            for wishes in side_lists(4)[seed % 5::9]:
                twin = book.twin()
                for mark, want in wishes:
                    twin.wish(mark, want)
                self.check_answers(twin)

    def test_logs_by_the_books_own_numbers(self):
        book = book_of(2, [ALWAYS, clause_of((0, 1)), ALWAYS, clause_of((0, 0))])
        book.take(1)
        book.take(3)
        word, clash, log = book.answer()
        self.assertEqual((word, clash, log.bars(book.rows())), ("no", [], True))
        self.assertEqual(log.leans()[-1], (2, 4))

    def test_least_and_count_without_the_wishes(self):
        book = book_of(2, [clause_of((0, 1), (1, 1))], [(0, 1), (1, 1)], [(0, 1, 5), (1, 1, 4)])
        self.assertEqual((book.least(), book.count()), (4, 3))
        book.put([(0, 1, 1)], 1)
        self.assertEqual((book.least(), book.count()), (5, 2))

    def test_least_without_a_goal(self):
        self.assertEqual(Book().least(), 0)
        self.assertEqual(book_of(4, [clause_of((0, 1))]).least(), 0)
        self.assertIsNone(book_of(4, [BAR]).least())

    def test_no_way_has_all_rows(self):
        book = book_of(4, [clause_of((0, 1)), clause_of((0, 0))], [(1, 1)], [(0, 1, 2)])
        self.assertEqual((book.least(), book.count(), book.clash()), (None, 0, []))

    def test_no_rows(self):
        self.assertEqual((Book(1).count(), Book(12).count()), (2, 4096))
        self.assertEqual(book_of(2, [], [(0, 1), (1, 0)]).answer(), ("yes", [1, 0]))

    def test_answers_stay_whatever_was_learnt(self):
        book = book_of(9, LONG, [(0, 1)])
        due = book.answer()
        run_to_end(book)
        self.assertEqual(book.answer(), due)
        self.check_answers(book)

    def test_great_goals(self):
        goal = [(mark, mark % 2, 10 ** 29 + mark * 10 ** 15) for mark in range(12)]
        self.check_answers(book_of(12, pigeons(3, 4, False), [(0, 1)], goal))


if __name__ == "__main__":
    unittest.main()
