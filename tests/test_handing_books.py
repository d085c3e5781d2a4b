"""Point [2] for texts, books, pages and desks: what is handed in and told, its names and its defaults."""

import unittest
from copy import deepcopy
from inspect import Parameter, signature

from tests.helper import book_of, clause_of, halved, looks, run_to_end
from weighrow import book as books
from weighrow import desk as desks
from weighrow import pages, texts
from weighrow.book import Book
from weighrow.desk import Desk
from weighrow.errors import BadTerm, BadText, Full, Missing, NoMark, NoRow, NothingLeft, NoWish, RowError, Wished

NEEDED = Parameter.empty
INTERFACE = {
    texts.side_text: {"side": NEEDED}, texts.row_text: {"row": NEEDED}, texts.read_side: {"text": NEEDED},
    texts.read_relation: {"text": NEEDED}, pages.page: {"book": NEEDED}, pages.read_page: {"text": NEEDED},
    books.Book: {"many": 4}, desks.Desk: {"many": 4},
}
BOOK_METHODS = {
    "put": {"terms": NEEDED, "least": NEEDED}, "take": {"number": NEEDED}, "wish": {"mark": NEEDED, "want": NEEDED},
    "free": {"mark": NEEDED}, "goal": {"terms": NEEDED}, "run": {"turns": 1}, "undo": {}, "redo": {}, "marks": {},
    "rows": {}, "wishes": {}, "goal_terms": {}, "coming": {}, "word": {}, "learnt": {}, "learnt_log": {}, "answer": {},
    "clash": {}, "least": {}, "count": {}, "twin": {}, "__len__": {}, "__repr__": {}, "__eq__": {"other": NEEDED},
}
DESK_METHODS = {"say": {"line": NEEDED}, "book": {}}
LONG = halved([123, 229, 331, 437, 541, 643, 747, 854, 1001])


def names_of(call):
    return {name: told.default for name, told in signature(call).parameters.items() if name != "self"}


def rich_book():
    """A book with something of everything, also to take back and to do again."""
    book = book_of(9, LONG, [(8, 0), (2, 1)], [(0, 1, 2), (4, 0, 3)])
    run_to_end(book)
    book.run()
    book.undo()
    return book


class Names(unittest.TestCase):
    def test_functions_and_classes(self):
        for call, names in INTERFACE.items():
            self.assertEqual(list(names_of(call).items()), list(names.items()), call)

    def test_methods_stand_in_the_class_itself(self):
        for kind, methods in ((Book, BOOK_METHODS), (Desk, DESK_METHODS)):
            for name, names in methods.items():
                self.assertIn(name, vars(kind))
                self.assertEqual(list(names_of(vars(kind)[name]).items()), list(names.items()), name)

    def test_texts_by_name(self):
        self.assertEqual(texts.side_text(side=(1, 0)), "-b")
        self.assertEqual(texts.row_text(row=(((0, 1, 1),), 1)), "1 a >= 1")
        self.assertEqual(texts.read_side(text="-b"), (1, 0))
        self.assertEqual(texts.read_relation(text="1 a >= 1"), [(((0, 1, 1),), 1)])

    def test_books_by_name(self):
        book = Book(many=3)
        self.assertEqual(book.put(least=1, terms=[(0, 1, 1), (1, 1, 1)]), 1)
        book.wish(want=0, mark=0)
        book.goal(terms=[(1, 1, 7)])
        self.assertEqual(book.run(turns=1000), "yes")
        self.assertEqual(looks(book)[:6], (3, [(1, clause_of((0, 1), (1, 1)))], [(0, 0)], [(1, 1, 7)], 2, "yes"))
        book.free(mark=0)
        book.take(number=1)
        self.assertEqual((book.wishes(), book.rows()), ([], []))

    def test_pages_and_desks_by_name(self):
        book = Book(many=3)
        self.assertEqual(pages.read_page(text=pages.page(book=book)), book)
        self.assertEqual(Desk(many=3).say(line="count"), "8")

    def test_left_out(self):
        self.assertEqual((Book().marks(), Desk().book().marks()), (4, 4))
        one, other = Book(9), Book(9)
        self.assertEqual((one.run(), looks(one)), (other.run(1), looks(other)))


class Kinds(unittest.TestCase):
    def test_what_deeds_tell(self):
        book = Book()
        self.assertEqual(type(book.put([(0, 1, 1)], 1)), int)
        for told in (book.wish(0, 1), book.goal([(0, 1, 1)]), book.free(0), book.take(1), book.undo(), book.redo()):
            self.assertIsNone(told)
        self.assertEqual(type(book.run()), str)

    def test_what_looks_tell(self):
        book = rich_book()
        self.assertEqual(
            [type(told) for told in (
                book.marks(), book.rows(), book.wishes(), book.goal_terms(), book.coming(), book.word(), book.learnt(),
                book.answer(), book.clash(), book.count(), len(book), repr(book),
            )],
            [int, list, list, list, int, str, list, tuple, list, int, int, str],
        )
        for number, row in book.rows():
            self.assertEqual([type(thing) for thing in (number, row, row[0], row[1])], [int, tuple, tuple, int])
        for row, leans in book.learnt():
            self.assertEqual([type(thing) for thing in (row, row[0], leans)], [tuple] * 3)


class HandedIn(unittest.TestCase):
    def test_terms(self):
        book = Book(4)
        for terms in ([(2, 1, -4), (0, 0, 9), (2, 0, 1)], [(0, 1, 0)], []):
            before = deepcopy(terms)
            book.put(terms, 3)
            self.assertEqual(terms, before)
            due = looks(book)
            terms.append((9, 9, 9))
            terms.clear()
            self.assertEqual(looks(book), due)

    def test_goals(self):
        book = Book(4)
        terms = [(0, 1, 5), (2, 0, 1)]
        book.goal(terms)
        self.assertEqual(terms, [(0, 1, 5), (2, 0, 1)])
        due = looks(book)
        terms[0] = (1, 1, 1)
        terms.append((3, 1, 1))
        self.assertEqual(looks(book), due)
        book.goal([])
        terms.clear()
        book.undo()
        self.assertEqual(looks(book), due)

    def test_refused(self):
        book = book_of(4, [])
        for call, terms in (
            (lambda terms: book.put(terms, 1), [(1, 1, 1), (4, 1, 1)]), (book.goal, [(1, 1, 1), (0, 1, 1)]),
        ):
            before = list(terms)
            self.assertRaises(BadTerm, call, terms)
            self.assertEqual(terms, before)

    def test_a_book_of_which_a_page_is_written(self):
        book = rich_book()
        due = looks(book)
        self.assertEqual(pages.page(book), pages.page(book))
        self.assertEqual(looks(book), due)
        book.redo()


class ToldLists(unittest.TestCase):
    def test_each_look(self):
        book = rich_book()
        due = looks(book)
        for call in (book.rows, book.wishes, book.goal_terms, book.learnt):
            self.assertNotEqual(call(), [])
            call().clear()
            self.assertEqual(looks(book), due)
            call().append((7, 7))
            call()[0] = None
            self.assertEqual(looks(book), due)
            self.assertIsNot(call(), call())
        book.learnt_log().lines().clear()
        book.learnt_log().held.clear()
        self.assertEqual(looks(book), due)

    def test_answers(self):
        book = rich_book()
        due = looks(book)
        word, clash, log = book.answer()
        clash.append((0, 0))
        log.held.clear()
        book.clash().append((0, 0))
        self.assertEqual(looks(book), due)
        book = book_of(2, [], [(0, 1)])
        book.answer()[1].clear()
        self.assertEqual(book.answer(), ("yes", [1, 0]))

    def test_changed_in_between(self):
        """Told lists that are changed change neither what can be taken back nor what is done next."""
        book, due = Book(9), Book(9)
        for terms, least in LONG:
            for one in (book, due):
                one.put(terms, least)
            book.rows().clear()
            book.wishes().append((0, 1))
            book.goal_terms().append((0, 1, 1))
            for one in (book, due):
                one.run(40)
            book.learnt().clear()
        self.assertEqual(looks(book), looks(due))
        for step in range(4):
            book.undo()
            due.undo()
            self.assertEqual(looks(book), looks(due))

    def test_relations(self):
        told = texts.read_relation("1 a = 1")
        told.clear()
        self.assertEqual(len(texts.read_relation("1 a = 1")), 2)

    def test_asking_changes_nothing(self):
        asked, due = rich_book(), rich_book()
        for step in range(3):
            looks(asked)
        self.assertEqual(len(asked.past), len(due.past))
        asked.redo()
        due.redo()
        self.assertEqual(looks(asked), looks(due))


class RaisedRefusals(unittest.TestCase):
    """Each refusal as it is raised: its own class, straight under its kind, with its word and its fields."""

    def test_books(self):
        full = book_of(1, [((), 0)] * 40, [(0, 1)])
        for call, error, kind, word in (
            (lambda: Book(0), "BadMany", RowError, "bad many"),
            (lambda: full.put([(1, 1, 1)], 1), "BadTerm", RowError, "bad term"),
            (lambda: full.put([], 1), "Full", RowError, "full"), (lambda: full.take(41), "NoRow", Missing, "no row"),
            (lambda: full.wish(1, 2), "NoMark", Missing, "no mark"),
            (lambda: full.wish(0, 2), "BadWant", RowError, "bad want"),
            (lambda: full.wish(0, 1), "Wished", RowError, "wished"),
            (lambda: full.free(1), "NoWish", Missing, "no wish"),
            (lambda: full.goal([(0, 1, 0)]), "BadTerm", RowError, "bad term"),
            (lambda: full.run(0), "BadTurns", RowError, "bad turns"),
            (lambda: full.redo(), "NothingLeft", Missing, "nothing left"),
            (lambda: Book().undo(), "NothingLeft", Missing, "nothing left"),
            (lambda: Desk(13), "BadMany", RowError, "bad many"),
            (lambda: pages.read_page("marks 4 1\n"), "BadText", RowError, "bad text"),
            (lambda: texts.read_side("m"), "BadText", RowError, "bad text"),
        ):
            with self.assertRaises((RowError, Missing)) as caught:
                call()
            told = caught.exception
            self.assertEqual((type(told).__name__, told.called), (error, word))
            self.assertEqual(type(told).__bases__, (kind,))

    def test_fields(self):
        with self.assertRaises(BadText) as caught:
            pages.read_page("marks 4 1\n")
        self.assertEqual(caught.exception.row, 1)

    def test_kinds(self):
        for error in (BadTerm, Full, Wished, BadText):
            self.assertTrue(issubclass(error, ValueError))
        for error in (NoMark, NoRow, NoWish, NothingLeft):
            self.assertTrue(issubclass(error, LookupError))


if __name__ == "__main__":
    unittest.main()
