"""Point [22]: pages of books, written and read."""

import unittest

from tests.helper import ALWAYS, BAR, HUGE, book_of, halved, looks, plain_rows, run_to_end
from weighrow.book import Book
from weighrow.errors import BadText, NothingLeft
from weighrow.logs import Log
from weighrow.pages import page, read_page
from weighrow.spread import slack

SIXTY = 10 ** 60 - 1
TEXT = "marks 4 8\n2 3 a + 2 -b >= 4\n5 1 -d >= 1\n7 0 >= 0\nwish -a c\ngoal 5 a + 1 -c\n"
ROWS = TEXT.split("\n")[:-1]
# Rows that are wrong wherever they stand.
NO_ROWS = [
    "", " ", "x", "#", "\t", "page", "Wish", "WISH a", "Goal", "marks", "marks 4", "Marks 4 8", "wishes", "goals",
    "wish\t", "\twish", "goal\r", "wish\r", " wish", " goal", "wish ", "goal ", "rows", "3", "3 ", "3 a", "-3 0 >= 0",
]
BAD_HEADS = [
    "marks 0 8", "marks 13 8", "marks -1 8", "marks 04 8", "marks +4 8", "marks x 8", "marks 4", "marks 4 ", "marks  4 8",
    "marks 4  8", " marks 4 8", "marks 4 8 ", "marks 4 8 9", "marks 4 0", "marks 4 08", "marks 4 -8", "marks 4 +8",
    "marks 4 x", "marks 4 1" + "0" * 60, "marks 1" + "0" * 60 + " 8", "marks\t4 8", "marks 4\t8", "marks 4 8\r", "Marks 4 8",
    "mark 4 8", "4 8", "marks", "", "marks \u0664 8", "marks 4 \u0668", "marks 4 8.", "marks 100 8", "wish", "goal",
]
# Each may stand neither as the row of the number 5 in TEXT nor as another row behind the number 2 and ahead of 7.
BAD_NUMBERED = [
    "0 1 a >= 1", "1 1 a >= 1", "2 1 a >= 1", "8 1 a >= 1", "9 1 a >= 1", "05 1 a >= 1", "-5 1 a >= 1", "+5 1 a >= 1",
    "5  1 a >= 1", " 5 1 a >= 1", "5 1 a >= 1 ", "5 1 a >= 1\r", "5\t1 a >= 1", "5", "5 ", "1 a >= 1", "x 1 a >= 1",
    "5 1 e >= 1", "5 1 -e >= 1", "5 1 l >= 1", "5 1 m >= 1", "5 1 A >= 1", "5 1 a + 1 e >= 1", "5 2 a >= 1",
    "5 1 a + 3 b >= 2", "5 0 a >= 1", "5 -1 a >= 1", "5 1 a >= 0", "5 1 a >= -1", "5 1 b + 1 a >= 1",
    "5 1 a + 1 a >= 1", "5 1 a + 1 -a >= 1", "5 0 >= 2", "5 0 >= -1", "5 0 >= -0", "5 00 >= 0", "5 >= 0", "5 >= 1",
    "5 1 a <= 1", "5 1 a = 1", "5 0 = 0", "5 0 <= 0", "5 1 a > 1", "5 1 a >= 01", "5 01 a >= 1", "5 1 a >= +1",
    "5 1 a  >= 1", "5 1 a >=  1", "5 1 a>= 1", "5 1a >= 1", "5 1 a +1 b >= 1", "5 1 a + >= 1", "5 a >= 1",
    f"5 1 a >= {SIXTY + 1}", f"5 {SIXTY + 1} a >= {SIXTY + 1}", f"{SIXTY + 1} 1 a >= 1", "\u0665 1 a >= 1",
    "5 \u0661 a >= 1", "5 1 a >= \u0661", "5 5 1 a >= 1", "5 1 a >= 1 1", "5: 1 a >= 1", "5.0 1 a >= 1",
]
BAD_WISHES = [
    "wish c -a", "wish a a", "wish a -a", "wish -a a", "wish e", "wish -e", "wish a l", "wish m", "wish A", "wish ab",
    "wish  a", "wish a ", "wish a  b", "wish ", " wish", "wish --a", "wish - a", "wish a, b", "wish a + b", "wish 0",
    "wish 1 a", "wish\ta", "wish a\r", "Wish a", "wishes", "goal", "", "wisha", "wish b a", "wish a c b",
]
BAD_GOALS = [
    "goal 0", "goal 0 a", "goal -1 a", "goal -0 a", "goal 1 b + 1 a", "goal 1 a + 1 a", "goal 1 a + 1 -a", "goal 1 e",
    "goal 1 a + 1 e", "goal 1 m", "goal a", "goal 1", "goal  1 a", "goal 1 a ", "goal 1  a", "goal 1 a  + 1 b",
    "goal 1 a + ", "goal + 1 a", "goal 1 a 1 b", "goal 01 a", "goal +1 a", f"goal {SIXTY + 1} a", "goal ", " goal",
    "goal 1 a >= 1", "goal 1 a\r", "Goal", "goals", "wish", "", "goal\t1 a", "goal1 a", "goal \u0661 a", "goal 0 + 1 a",
]


def text_of(rows):
    return "".join(row + "\n" for row in rows)


class Written(unittest.TestCase):
    def test_new_books(self):
        self.assertEqual(page(Book()), "marks 4 1\nwish\ngoal\n")
        self.assertEqual(page(Book(12)), "marks 12 1\nwish\ngoal\n")

    def test_rows(self):
        book = book_of(4, [(((0, 1, 3), (1, 0, 2)), 4), ALWAYS, BAR])
        self.assertEqual(page(book), "marks 4 4\n1 3 a + 2 -b >= 4\n2 0 >= 0\n3 0 >= 1\nwish\ngoal\n")
        book.take(2)
        self.assertEqual(page(book), "marks 4 4\n1 3 a + 2 -b >= 4\n3 0 >= 1\nwish\ngoal\n")
        book.take(3)
        book.take(1)
        self.assertEqual(page(book), "marks 4 4\nwish\ngoal\n")

    def test_wishes_and_goal(self):
        book = book_of(12, [], [(11, 0), (2, 1)], [(0, 1, 5), (10, 0, 1)])
        self.assertEqual(page(book), "marks 12 1\nwish c -l\ngoal 5 a + 1 -k\n")
        self.assertEqual(page(book_of(4, [], [(3, 0)], [(2, 1, 7)])), "marks 4 1\nwish -d\ngoal 7 c\n")

    def test_great_numbers(self):
        book = book_of(2, [(((0, 1, HUGE),), HUGE)], [], [(1, 0, HUGE)])
        self.assertEqual(page(book), f"marks 2 2\n1 {HUGE} a >= {HUGE}\nwish\ngoal {HUGE} -b\n")

    def test_numbers_beyond_sixty_figures_are_written_too(self):
        book = book_of(1, [], [], [(0, 1, 10 ** 5000)])
        self.assertEqual(page(book), "marks 1 1\nwish\ngoal 1" + "0" * 5000 + " a\n")

    def test_what_was_learnt_is_not_on_it(self):
        book = book_of(9, halved([123, 229, 331, 437, 541, 643, 747, 854, 1001]))
        due = page(book)
        run_to_end(book)
        self.assertEqual(page(book), due)


class Read(unittest.TestCase):
    def check(self, book):
        before = looks(book)
        told = read_page(page(book))
        self.assertIsInstance(told, Book)
        self.assertTrue(told == book)
        self.assertEqual(page(told), page(book))
        self.assertEqual((told.learnt(), told.learnt_log(), told.word()), ([], Log([]), "halted"))
        for call in (told.undo, told.redo):
            self.assertRaises(NothingLeft, call)
        self.assertEqual(looks(book), before)
        return told

    def test_new_books(self):
        for many in range(1, 13):
            self.check(Book(many))

    def test_books_with_rows_wishes_and_goals(self):
        rows = plain_rows(30, 5)
        for at in range(0, 31, 3):
            book = book_of(5, rows[:at], [(at % 5, at % 2)], [(at % 5, 1, 1 + at)])
            self.check(book)
            for number in range(1, at, 4):
                book.take(number)
            self.check(book)

    def test_forty_rows(self):
        told = self.check(book_of(12, [(tuple((mark, 1, mark + 1) for mark in range(12)), 13)] * 40))
        self.assertEqual(len(told), 40)

    def test_books_that_learnt_and_can_take_back(self):
        book = book_of(9, halved([123, 229, 331, 437, 541, 643, 747, 854, 1001]), [(3, 1)])
        run_to_end(book)
        book.run()
        book.undo()
        self.check(book)

    def test_the_text_of_this_file(self):
        book = read_page(TEXT)
        self.assertEqual(book.marks(), 4)
        self.assertEqual(book.rows(), [
            (2, (((0, 1, 3), (1, 0, 2)), 4)), (5, (((3, 0, 1),), 1)), (7, ALWAYS),
        ])
        self.assertEqual((book.wishes(), book.goal_terms(), book.coming()), ([(0, 0), (2, 1)], [(0, 1, 5), (2, 0, 1)], 8))
        self.assertEqual(page(book), TEXT)
        self.check(book)

    def test_a_book_that_was_read_goes_on(self):
        book = read_page(TEXT)
        self.assertEqual(book.put([(0, 1, 1)], 1), 8)
        book.take(5)
        self.assertEqual([number for number, row in book.rows()], [2, 7, 8])
        self.assertEqual(run_to_end(book), "no")
        word, clash, log = book.answer()
        self.assertLess(slack(log.rows(book.rows())[-1], clash), 0)
        for step in range(3):
            book.undo()
        self.assertRaises(NothingLeft, book.undo)
        self.assertEqual(page(book), TEXT)

    def test_sixty_figures(self):
        text = f"marks 1 {SIXTY}\n{SIXTY - 1} {SIXTY} a >= {SIXTY}\nwish a\ngoal {SIXTY} a\n"
        book = read_page(text)
        self.assertEqual(page(book), text)
        self.assertEqual((book.coming(), book.least()), (SIXTY, SIXTY))
        self.assertEqual(book.put([], 0), SIXTY)
        self.assertEqual(book.coming(), SIXTY + 1)

    def test_numbers_anywhere_below_next(self):
        self.assertEqual(read_page("marks 1 3\n1 0 >= 0\n2 0 >= 1\nwish\ngoal\n").rows(), [(1, ALWAYS), (2, BAR)])
        self.assertEqual(read_page("marks 1 1000\n7 0 >= 0\n999 0 >= 1\nwish\ngoal\n").rows(), [(7, ALWAYS), (999, BAR)])
        self.assertEqual(read_page("marks 1 1000\nwish\ngoal\n").coming(), 1000)

    def test_reading_twice_tells_two_books(self):
        one, other = read_page(TEXT), read_page(TEXT)
        one.take(2)
        self.assertEqual(page(other), TEXT)


class Refused(unittest.TestCase):
    def check(self, text, row):
        with self.assertRaises(BadText, msg=repr(text)) as caught:
            read_page(text)
        self.assertEqual((caught.exception.row, caught.exception.called), (row, "bad text"), repr(text))

    def test_heads(self):
        for head in BAD_HEADS:
            self.check(text_of([head] + ROWS[1:]), 0)
            self.check(text_of([head, "wish", "goal"]), 0)
            self.check(head + "\n", 0)
            self.check(head, 0)

    def test_rows(self):
        for row in BAD_NUMBERED:
            self.check(text_of(ROWS[:2] + [row] + ROWS[3:]), 2)
            self.check(text_of(ROWS[:2] + [row, "x"]), 2)
        self.check(text_of(ROWS[:2] + ["6 1 a >= 1", "5 1 a >= 1"] + ROWS[3:]), 3)
        self.check(text_of(ROWS[:2] + ["5 1 a >= 1", "5 1 a >= 1"] + ROWS[3:]), 3)
        self.check(text_of(ROWS[:2] + ["7 1 a >= 1"] + ROWS[3:]), 3)

    def test_numbers_from_1_on(self):
        self.check("marks 4 8\n0 0 >= 0\nwish\ngoal\n", 1)
        self.check("marks 4 8\n-1 0 >= 0\nwish\ngoal\n", 1)
        self.check("marks 4 8\n0 0 >= 0\n1 0 >= 0\nwish\ngoal\n", 1)

    def test_numbers_not_below_next(self):
        self.check("marks 4 1\n1 0 >= 0\nwish\ngoal\n", 1)
        self.check("marks 4 2\n1 0 >= 0\n2 0 >= 0\nwish\ngoal\n", 2)
        self.check("marks 4 2\n1 0 >= 0\n3 0 >= 0\n2 0 >= 0\nwish\ngoal\n", 2)
        self.check("marks 4 7\n1 0 >= 0\n7 0 >= 0\nwish x\n", 2)

    def test_wishes(self):
        for row in BAD_WISHES:
            self.check(text_of(ROWS[:4] + [row] + ROWS[5:]), 4)
            self.check(text_of(["marks 4 1", row, "goal"]), 1)

    def test_goals(self):
        for row in BAD_GOALS:
            self.check(text_of(ROWS[:5] + [row]), 5)
            self.check(text_of(["marks 4 1", "wish", row]), 2)
            self.check(text_of(["marks 4 1", "wish", row, "x"]), 2)

    def test_no_rows_at_all(self):
        for row in NO_ROWS:
            for at in range(len(ROWS) + 1):
                self.check(text_of(ROWS[:at] + [row] + ROWS[at:]), at)

    def test_the_forty_first_row(self):
        rows = [f"{number} 0 >= 0" for number in range(1, 43)]
        head = "marks 4 99"
        self.assertEqual(len(read_page(text_of([head] + rows[:40] + ["wish", "goal"]))), 40)
        self.check(text_of([head] + rows[:41] + ["wish", "goal"]), 41)
        self.check(text_of([head] + rows[:42] + ["wish", "goal"]), 41)
        self.check(text_of([head] + rows[:41]), 41)

    def test_rows_that_lack_at_the_end(self):
        for at in range(len(ROWS)):
            self.check(text_of(ROWS[:at]), at)

    def test_the_last_line_feed_gone(self):
        for at in range(1, len(ROWS) + 1):
            self.check(text_of(ROWS[:at])[:-1], at - 1)

    def test_the_empty_text(self):
        self.check("", 0)
        self.check("\n", 0)

    def test_rows_too_many(self):
        for more in ("\n", "x", "goal\n", "goal", "wish\n", " ", "\n\n", TEXT, "8 0 >= 0\n"):
            self.check(TEXT + more, 6)

    def test_rows_out_of_their_order(self):
        self.check(text_of(ROWS[1:]), 0)
        self.check(text_of([ROWS[0], ROWS[4], ROWS[1], ROWS[5]]), 2)
        self.check(text_of([ROWS[0], ROWS[5], ROWS[4]]), 1)
        self.check(text_of([ROWS[0], ROWS[4], ROWS[4], ROWS[5]]), 2)
        self.check(text_of([ROWS[0], ROWS[0]] + ROWS[1:]), 1)
        self.check(text_of([ROWS[0], ROWS[5]]), 1)

    def test_other_line_ends(self):
        self.check(TEXT.replace("\n", "\r\n"), 0)
        self.check(TEXT.replace("\n", "\r"), 0)
        self.check(TEXT.replace("\n", "\x0b"), 0)
        self.check(TEXT.replace("\n", "\u2028"), 0)

    def test_each_text_with_a_character_off_or_doubled(self):
        for at in range(len(TEXT)):
            for text in (TEXT[:at] + TEXT[at + 1:], TEXT[:at] + TEXT[at] + TEXT[at:]):
                try:
                    self.assertEqual(page(read_page(text)), text)
                except BadText as error:
                    row = text[:at].count("\n")
                    self.assertIn(error.row, range(row, row + 6), (text, row))


if __name__ == "__main__":
    unittest.main()
