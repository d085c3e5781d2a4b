"""Point [19]: deeds taken back and done again, and twins."""

import unittest

from tests.helper import book_of, clause_of, halved, looks, numbers, run_to_end
from weighrow.book import Book
from weighrow.errors import BadTerm, BadTurns, NoMark, NoRow, NothingLeft, NoWish

LONG = halved([123, 229, 331, 437, 541, 643, 747, 854, 1001])


def deed_lists():
    """Lists of deeds, each a function of a book, that can be done one after the other."""
    return [
        lambda book: book.put(LONG[0][0], LONG[0][1]), lambda book: book.put(list(LONG[1][0]), LONG[1][1]),
        lambda book: book.run(50), lambda book: book.wish(3, 1), lambda book: book.run(), lambda book: book.wish(0, 0),
        lambda book: book.goal([(0, 1, 2)]), lambda book: book.goal([(0, 1, 2)]), lambda book: book.run(1000),
        lambda book: book.run(1000), lambda book: book.free(3), lambda book: book.run(30), lambda book: book.take(1),
        lambda book: book.run(2), lambda book: book.put([], 1), lambda book: book.run(9), lambda book: book.goal([]),
        lambda book: book.goal([]), lambda book: book.take(3), lambda book: book.free(0), lambda book: book.run(7),
    ]


def done_so_far():
    """A book behind all these deeds, and its looks ahead of each and behind the last."""
    book = Book(9)
    stages = [looks(book)]
    for deed in deed_lists():
        deed(book)
        stages.append(looks(book))
    return book, stages


class Undone(unittest.TestCase):
    def test_every_deed_taken_back_and_done_again(self):
        book, stages = done_so_far()
        for time in range(2):
            for stage in stages[-2::-1]:
                self.assertIsNone(book.undo())
                self.assertEqual(looks(book), stage)
            self.assertRaises(NothingLeft, book.undo)
            self.assertEqual(looks(book), stages[0])
            for stage in stages[1:]:
                self.assertIsNone(book.redo())
                self.assertEqual(looks(book), stage)
            self.assertRaises(NothingLeft, book.redo)
            self.assertEqual(looks(book), stages[-1])

    def test_back_and_forth_at_each_stage(self):
        book, stages = done_so_far()
        for at in range(len(stages) - 2, -1, -1):
            book.undo()
            book.redo()
            self.assertEqual(looks(book), stages[at + 1])
            book.undo()
            self.assertEqual(looks(book), stages[at])

    def test_the_same_deeds_done_anew_come_to_the_same(self):
        book, stages = done_so_far()
        for step in range(len(stages) - 1):
            book.undo()
        for deed, stage in zip(deed_lists(), stages[1:]):
            deed(book)
            self.assertEqual(looks(book), stage)

    def test_a_search_goes_on_from_a_run_that_was_taken_back(self):
        book, due = book_of(9, LONG), book_of(9, LONG)
        book.run(30)
        due.run(30)
        book.run(77)
        book.undo()
        while due.run(3) == "halted":
            book.run(3)
        book.run(3)
        self.assertEqual(looks(book), looks(due))

    def test_another_deed_and_nothing_to_do_again(self):
        for deed in (
            lambda book: book.put([], 0), lambda book: book.take(1), lambda book: book.wish(1, 1),
            lambda book: book.free(0), lambda book: book.goal([]), lambda book: book.goal([(0, 1, 1)]),
            lambda book: book.run(),
        ):
            book = book_of(4, [clause_of((0, 1))], [(0, 1)], [(0, 1, 1)])
            run_to_end(book)
            book.put([], 0)
            book.undo()
            deed(book)
            due = looks(book)
            self.assertRaises(NothingLeft, book.redo)
            self.assertEqual(looks(book), due)
            book.undo()
            book.redo()
            self.assertEqual(looks(book), due)

    def test_a_refused_deed_lets_nothing_go(self):
        book = book_of(4, [clause_of((0, 1))])
        book.put([], 0)
        due = looks(book)
        book.undo()
        for error, call, things in (
            (BadTerm, book.put, ([(4, 1, 1)], 1)), (NoRow, book.take, (2,)), (NoMark, book.wish, (4, 1)),
            (NoWish, book.free, (0,)), (BadTerm, book.goal, ([(0, 1, 0)],)), (BadTurns, book.run, (0,)),
        ):
            self.assertRaises(error, call, *things)
        book.redo()
        self.assertEqual(looks(book), due)
        self.assertRaises(NothingLeft, book.redo)
        self.assertEqual(looks(book), due)
        book.undo()
        book.undo()
        self.assertRaises(NothingLeft, book.undo)
        book.redo()
        book.redo()
        self.assertEqual(looks(book), due)

    def test_asking_lets_nothing_go(self):
        book = book_of(4, [clause_of((0, 1))])
        due = looks(book)
        book.undo()
        looks(book)
        book.twin().put([], 0)
        book.redo()
        self.assertEqual(looks(book), due)

    def test_nothing_left(self):
        book = Book()
        self.assertRaises(NothingLeft, book.undo)
        self.assertRaises(NothingLeft, book.redo)
        book.put([], 0)
        self.assertRaises(NothingLeft, book.redo)
        book.undo()
        self.assertRaises(NothingLeft, book.undo)

    def test_a_run_that_turns_nothing_is_a_deed(self):
        book = Book(1)
        run_to_end(book)
        due = looks(book)
        book.run()
        book.undo()
        self.assertEqual(looks(book), due)
        book.undo()
        self.assertEqual(book.word(), "halted")

    def test_a_goal_that_was_the_goal_is_a_deed(self):
        book = Book()
        book.goal([])
        book.undo()
        self.assertRaises(NothingLeft, book.undo)
        book.goal([(0, 1, 1)])
        book.goal([(0, 1, 1)])
        book.undo()
        self.assertEqual(book.goal_terms(), [(0, 1, 1)])
        book.undo()
        self.assertEqual(book.goal_terms(), [])

    def test_deeds_by_rule(self):
        for seed in range(6):
            run = numbers(seed + 5)
            book = Book(3)
            past, ahead = [], []
            for step in range(60):
                before = looks(book)
                choice = next(run) % 8
                if choice < 2 and past:
                    book.undo()
                    ahead.append(before)
                    self.assertEqual(looks(book), past.pop())
                elif choice < 4 and ahead:
                    book.redo()
                    past.append(before)
                    self.assertEqual(looks(book), ahead.pop())
                else:
                    self.one_deed(book, run)
                    past.append(before)
                    ahead = []

    def one_deed(self, book, run):
        choice, mark = next(run) % 4, next(run) % 3
        if choice == 0 and len(book) < 8:
            book.put([(next(run) % 3, next(run) % 2, next(run) % 5 - 1) for term in range(3)], next(run) % 4)
        elif choice == 1 and len(book) > 1:
            book.take(book.rows()[next(run) % len(book)][0])
        elif choice == 2 and mark in [place for place, want in book.wishes()]:
            book.free(mark)
        elif choice == 2:
            book.wish(mark, next(run) % 2)
        else:
            book.run(1 + next(run) % 4)


class Twins(unittest.TestCase):
    def test_what_can_be_taken_back_goes_with_them(self):
        book, stages = done_so_far()
        twin = book.twin()
        self.assertIsInstance(twin, Book)
        self.assertTrue(twin == book)
        for stage in stages[-2::-1]:
            twin.undo()
            self.assertEqual(looks(twin), stage)
        self.assertRaises(NothingLeft, twin.undo)
        self.assertEqual(looks(book), stages[-1])
        self.assertRaises(NothingLeft, book.redo)

    def test_what_can_be_done_again_goes_with_them(self):
        book, stages = done_so_far()
        for step in range(len(stages) - 1):
            book.undo()
        twin = book.twin()
        for stage in stages[1:]:
            twin.redo()
            self.assertEqual(looks(twin), stage)
        self.assertEqual(looks(book), stages[0])
        book.redo()
        self.assertEqual(looks(book), stages[1])

    def test_their_own_way(self):
        book = book_of(9, LONG)
        book.run(50)
        due = looks(book)
        twin = book.twin()
        for deed in (
            lambda: twin.run(1000), lambda: twin.put([], 1), lambda: twin.wish(0, 1), lambda: twin.take(1),
            lambda: twin.goal([(0, 1, 1)]), lambda: twin.undo(), lambda: twin.free(0), lambda: twin.undo(),
        ):
            deed()
            self.assertEqual(looks(book), due)
        stood = looks(twin)
        run_to_end(book)
        book.put([], 0)
        self.assertEqual(looks(twin), stood)

    def test_a_twin_runs_as_the_first_one_does(self):
        book = book_of(9, LONG)
        book.run(20)
        twin = book.twin()
        while book.run(5) == "halted":
            twin.run(5)
            self.assertEqual(looks(twin), looks(book))

    def test_a_twins_deed_leaves_the_first_ones_to_do_again(self):
        book = book_of(4, [clause_of((0, 1))])
        book.undo()
        twin = book.twin()
        twin.wish(0, 1)
        self.assertRaises(NothingLeft, twin.redo)
        book.redo()
        self.assertEqual(len(book), 1)

    def test_books_have_nothing_to_do_with_one_another(self):
        one, other = Book(9), Book(9)
        due = looks(other)
        for terms, least in LONG:
            one.put(terms, least)
        one.wish(0, 1)
        run_to_end(one)
        self.assertEqual(looks(other), due)
        self.assertRaises(NothingLeft, other.undo)


if __name__ == "__main__":
    unittest.main()
