"""Points [17] and [19], what it says of equal books: the deeds of a book, their refusals and its looks."""

import unittest

from tests.helper import ALWAYS, BAR, HUGE, book_of, looks, plain_rows, term_lists
from weighrow.book import Book
from weighrow.errors import BadMany, BadTerm, BadTurns, BadWant, Full, NoMark, NoRow, NothingLeft, NoWish, Wished
from weighrow.logs import Log
from weighrow.rows import plain

A_OR_B = (((0, 1, 1), (1, 1, 1)), 1)
BAD_TERMS = [(4, 1, 1), (-1, 1, 1), (9999, 0, 2), (HUGE, 1, 1), (0, 2, 1), (0, -1, 1), (3, HUGE, 1), (4, 2, 1)]


class Deeds(unittest.TestCase):
    def refused(self, book, error, call, *things):
        """What is refused changes nothing, not even what can be taken back and done again."""
        before = looks(book)
        ahead, behind = len(book.past), len(book.undone)
        self.assertRaises(error, call, *things)
        self.assertEqual(looks(book), before)
        self.assertEqual((len(book.past), len(book.undone)), (ahead, behind))


class New(Deeds):
    def test_a_new_book(self):
        book = Book()
        self.assertEqual(
            (book.marks(), book.rows(), book.wishes(), book.goal_terms(), book.coming(), book.word(), book.learnt()),
            (4, [], [], [], 1, "halted", []),
        )
        self.assertEqual(book.learnt_log(), Log([]))
        for call in (book.undo, book.redo):
            self.assertRaises(NothingLeft, call)

    def test_many(self):
        for many in (1, 2, 12):
            self.assertEqual(Book(many).marks(), many)
        for many in (0, -1, 13, HUGE, -HUGE):
            self.assertRaises(BadMany, Book, many)
            self.assertRaises(BadMany, Book, many=many)


class Put(Deeds):
    def test_numbers_from_1_on(self):
        book = Book()
        self.assertEqual([book.put([(0, 1, 1)], 1), book.put([(1, 0, 2)], 1), book.put([(0, 1, 1)], 1)], [1, 2, 3])
        self.assertEqual(book.rows(), [(1, (((0, 1, 1),), 1)), (2, (((1, 0, 1),), 1)), (3, (((0, 1, 1),), 1))])
        self.assertEqual((book.coming(), len(book)), (4, 3))

    def test_rows_are_made_plain(self):
        for terms, least in term_lists(60, 4, 6):
            book = Book(4)
            book.put(terms, least)
            book.put(tuple(terms), least)
            self.assertEqual(book.rows(), [(1, plain(terms, least)), (2, plain(terms, least))])

    def test_rows_without_terms(self):
        book = Book(1)
        book.put([], 0)
        book.put([], 7)
        book.put([(0, 1, 0)], -3)
        book.put([(0, 1, 2), (0, 0, 2)], 3)
        self.assertEqual([row for number, row in book.rows()], [ALWAYS, BAR, ALWAYS, BAR])

    def test_great_numbers(self):
        book = Book()
        book.put([(0, 1, HUGE), (1, 0, -HUGE)], HUGE)
        self.assertEqual(book.rows(), [(1, (((0, 1, HUGE), (1, 1, HUGE)), 2 * HUGE))])

    def test_bad_terms(self):
        book = book_of(4, [A_OR_B])
        for term in BAD_TERMS:
            for terms in ([term], [(0, 1, 1), term], [term, (0, 1, 1)], (term,)):
                self.refused(book, BadTerm, book.put, terms, 1)
                self.refused(book, BadTerm, book.put, terms, -5)

    def test_bad_terms_that_no_plain_row_has(self):
        book = Book(4)
        for mark, want, weight in BAD_TERMS:
            self.refused(book, BadTerm, book.put, [(mark, want, 0)], 1)
            self.refused(book, BadTerm, book.put, [(0, 1, 1), (mark, want, 0)], 0)
            self.refused(book, BadTerm, book.put, [(mark, want, 3), (mark, want, -3)], 1)
            self.refused(book, BadTerm, book.put, [(mark, want, -HUGE)], -HUGE)
        self.assertEqual(book.coming(), 1)

    def test_the_last_mark(self):
        for many in (1, 4, 12):
            book = Book(many)
            self.assertEqual(book.put([(many - 1, 0, 1)], 1), 1)
            self.refused(book, BadTerm, book.put, [(many, 0, 1)], 1)

    def test_forty_rows(self):
        book = Book(4)
        self.assertEqual([book.put([(0, 1, 1)], 1) for step in range(40)], list(range(1, 41)))
        self.refused(book, Full, book.put, [(0, 1, 1)], 1)
        self.refused(book, Full, book.put, [], 0)
        self.assertEqual((len(book), book.coming()), (40, 41))
        book.take(7)
        self.assertEqual(book.put([(1, 1, 1)], 1), 41)
        self.refused(book, Full, book.put, [(0, 1, 1)], 1)

    def test_bad_terms_go_ahead_of_full(self):
        book = book_of(4, [A_OR_B] * 40)
        for term in BAD_TERMS:
            self.refused(book, BadTerm, book.put, [term], 1)
            self.refused(book, BadTerm, book.put, [(term[0], term[1], 0)], 1)

    def test_room_behind_a_put_that_was_taken_back(self):
        book = book_of(4, [A_OR_B] * 40)
        book.undo()
        self.assertEqual(book.put([], 0), 40)
        self.refused(book, Full, book.put, [], 0)


class Take(Deeds):
    def test_a_row_is_none(self):
        book = book_of(4, [A_OR_B, BAR, ALWAYS])
        self.assertIsNone(book.take(2))
        self.assertEqual(book.rows(), [(1, A_OR_B), (3, ALWAYS)])
        self.assertIsNone(book.take(1))
        self.assertIsNone(book.take(3))
        self.assertEqual((book.rows(), len(book), book.coming()), ([], 0, 4))

    def test_no_row(self):
        book = book_of(4, [A_OR_B, BAR])
        book.take(1)
        for number in (0, 1, 3, -1, HUGE, -HUGE):
            self.refused(book, NoRow, book.take, number)
        empty = Book()
        self.refused(empty, NoRow, empty.take, 1)

    def test_numbers_are_never_given_again(self):
        book = book_of(4, [A_OR_B, BAR])
        book.take(2)
        self.assertEqual(book.put([], 0), 3)
        book.take(1)
        book.take(3)
        self.assertEqual(book.put([], 0), 4)

    def test_but_where_their_coming_was_taken_back(self):
        book = book_of(4, [A_OR_B])
        self.assertEqual(book.put([], 1), 2)
        book.undo()
        self.assertEqual((book.coming(), book.put([], 0)), (2, 2))
        self.assertEqual(book.rows(), [(1, A_OR_B), (2, ALWAYS)])
        book.take(2)
        book.undo()
        self.assertEqual(book.put([], 1), 3)


class Wish(Deeds):
    def test_wishes_rise(self):
        book = Book(4)
        for mark, want in ((2, 1), (0, 0), (3, 0)):
            self.assertIsNone(book.wish(mark, want))
        self.assertEqual(book.wishes(), [(0, 0), (2, 1), (3, 0)])
        self.assertIsNone(book.free(2))
        self.assertEqual(book.wishes(), [(0, 0), (3, 0)])
        book.wish(2, 0)
        self.assertEqual(book.wishes(), [(0, 0), (2, 0), (3, 0)])

    def test_no_mark(self):
        book = Book(4)
        for mark in (4, -1, 12, HUGE):
            for want in (0, 1, 2):
                self.refused(book, NoMark, book.wish, mark, want)

    def test_bad_want(self):
        book = Book(4)
        book.wish(3, 1)
        for mark in range(4):
            for want in (2, -1, HUGE):
                self.refused(book, BadWant, book.wish, mark, want)

    def test_wished(self):
        book = Book(4)
        book.wish(0, 1)
        for want in (0, 1):
            self.refused(book, Wished, book.wish, 0, want)
        self.assertEqual(book.wishes(), [(0, 1)])

    def test_no_wish(self):
        book = Book(4)
        book.wish(1, 0)
        for mark in (0, 2, 3, 4, -1, HUGE):
            self.refused(book, NoWish, book.free, mark)
        book.free(1)
        self.refused(book, NoWish, book.free, 1)


class Goal(Deeds):
    def test_a_goal(self):
        book = Book(4)
        for terms in ([(0, 1, 5), (2, 0, 1), (3, 1, HUGE)], [(1, 0, 1)], []):
            self.assertIsNone(book.goal(terms))
            self.assertEqual(book.goal_terms(), terms)

    def test_no_goals(self):
        book = Book(4)
        book.goal([(0, 1, 5)])
        for term in BAD_TERMS:
            self.refused(book, BadTerm, book.goal, [term])
        for terms in (
            [(1, 1, 1), (0, 1, 1)], [(0, 1, 1), (0, 1, 1)], [(0, 1, 1), (0, 0, 1)], [(0, 1, 1), (2, 1, 1), (1, 1, 1)],
            [(0, 1, 0)], [(0, 1, -1)], [(0, 1, 1), (1, 1, 0)], [(0, 1, 1), (4, 1, 1)], [(0, 1, 1), (1, 2, 1)],
            [(0, 1, -HUGE)],
        ):
            self.refused(book, BadTerm, book.goal, terms)
        self.assertEqual(book.goal_terms(), [(0, 1, 5)])


class Run(Deeds):
    def test_the_word_is_told(self):
        self.assertEqual(Book(4).run(1000), "yes")
        self.assertEqual(book_of(4, [BAR]).run(1000), "no")
        book = Book(12)
        self.assertEqual((book.run(), book.word()), ("halted", "halted"))

    def test_one_turn_where_none_is_told(self):
        one, other = Book(12), Book(12)
        while one.word() == "halted":
            self.assertEqual(one.run(), other.run(1))

    def test_bad_turns_at_any_word(self):
        books = [Book(12), Book(1), book_of(4, [BAR])]
        for book, turns, word in zip(books, (2, 1000, 1000), ("halted", "yes", "no")):
            for fresh in (True, False):
                if not fresh:
                    self.assertEqual(book.run(turns), word)
                for wrong in (0, -1, 1001, 1002, HUGE, -HUGE):
                    self.refused(book, BadTurns, book.run, wrong)

    def test_turns_at_the_bounds(self):
        self.assertEqual(Book(12).run(1), "halted")
        self.assertEqual(Book(12).run(1000), "yes")


class Equal(unittest.TestCase):
    def test_the_same_looks(self):
        for make in (
            Book, lambda: Book(12), lambda: book_of(4, plain_rows(20, 4)),
            lambda: book_of(4, [A_OR_B], [(0, 1)], [(1, 1, 2)]),
        ):
            self.assertTrue(make() == make())
            self.assertFalse(make() != make())

    def test_each_look_counts(self):
        books = [
            Book(4), Book(5), book_of(4, [A_OR_B]), book_of(4, [BAR]), book_of(4, [A_OR_B, BAR]),
            book_of(4, [], [(0, 1)]), book_of(4, [], [(0, 0)]), book_of(4, [], [(1, 1)]),
            book_of(4, [], [], [(0, 1, 1)]), book_of(4, [], [], [(0, 1, 2)]), book_of(4, [], [], [(0, 0, 1)]),
        ]
        for at, one in enumerate(books):
            for place, other in enumerate(books):
                self.assertEqual(one == other, at == place, (one, other))
                self.assertEqual(one != other, at != place)

    def test_rows_by_number(self):
        first, second = book_of(4, [A_OR_B, A_OR_B]), book_of(4, [A_OR_B, A_OR_B])
        first.take(1)
        second.take(2)
        self.assertFalse(first == second)

    def test_the_number_that_comes_next(self):
        book = book_of(4, [A_OR_B])
        book.take(1)
        self.assertFalse(book == Book(4))
        book.undo()
        book.undo()
        self.assertTrue(book == Book(4))

    def test_not_what_was_learnt_and_not_what_can_be_taken_back(self):
        book = book_of(4, [A_OR_B])
        book.run(1000)
        self.assertTrue(book == book_of(4, [A_OR_B]))
        book.wish(0, 1)
        book.free(0)
        self.assertTrue(book == book_of(4, [A_OR_B]))

    def test_not_the_order_of_the_wishes(self):
        self.assertTrue(book_of(4, [], [(0, 1), (3, 0)]) == book_of(4, [], [(3, 0), (0, 1)]))

    def test_anything_else(self):
        book = Book(4)
        for other in (None, 4, "Book(4 marks, 0 rows)", [], (), {}, book.rows(), Log([]), object(), Book, 0, False):
            self.assertIs(book == other, False)
            self.assertIs(book != other, True)


class Shown(unittest.TestCase):
    def test_repr(self):
        self.assertEqual(repr(book_of(4, [A_OR_B, BAR])), "Book(4 marks, 2 rows)")
        self.assertEqual(repr(Book()), "Book(4 marks, 0 rows)")
        self.assertEqual(repr(book_of(1, [BAR])), "Book(1 marks, 1 rows)")
        self.assertEqual(repr(book_of(12, [BAR] * 40)), "Book(12 marks, 40 rows)")

    def test_len(self):
        book = Book()
        for many in range(5):
            self.assertEqual(len(book), many)
            book.put([], 0)
        book.take(3)
        self.assertEqual(len(book), 4)


if __name__ == "__main__":
    unittest.main()
