"""Point [23]: a desk and its lines."""

import unittest

from tests.helper import HUGE, comes_to, looks, so_ways
from tests.test_texts import BAD_NUMBERS, BAD_RELATIONS, BAD_SIDES
from weighrow.book import Book
from weighrow.desk import Desk
from weighrow.errors import BadMany, NothingLeft
from weighrow.pages import page, read_page
from weighrow.texts import read_side

WITH_NUMBER = ("take", "run")
LONE = ("goal", "undo", "redo", "ask", "clash", "least", "count", "rows", "page")
WORDS = ("put", "take", "wish", "free", "run") + LONE


def desk_of(many, *lines):
    """A desk to which these lines were said, each of which was answered well."""
    desk = Desk(many)
    for line in lines:
        told = desk.say(line)
        assert told != "what" and not told.startswith("no: "), (line, told)
    return desk


def standing(desk):
    """All looks of a desk's book, and how much can be taken back and done again."""
    book = desk.book()
    return looks(book), len(book.past), len(book.undone)


def filled(many, count):
    return desk_of(many, *["put 1 a >= 1"] * count)


class Saying(unittest.TestCase):
    def says(self, desk, line, told):
        self.assertEqual(desk.say(line), told, line)

    def unchanged(self, desk, line, told):
        before = standing(desk)
        self.says(desk, line, told)
        self.assertEqual(standing(desk), before, line)


class New(Saying):
    def test_many(self):
        self.assertEqual(Desk().book(), Book(4))
        for many in (1, 4, 12):
            self.assertEqual(Desk(many).book(), Book(many))
            self.assertEqual(Desk(many=many).say("count"), str(2 ** many))
        for many in (0, -1, 13, HUGE, -HUGE):
            self.assertRaises(BadMany, Desk, many)


class Put(Saying):
    def test_numbers(self):
        desk = Desk(4)
        self.says(desk, "put 3 a + 2 -b >= 4", "1")
        self.says(desk, "put 1 a <= 0", "2")
        self.says(desk, "put 1 c + 1 d = 1", "3 4")
        self.says(desk, "put 0 >= 0", "5")
        self.says(desk, "put 0 = 0", "6 7")
        self.assertEqual(desk.book().rows(), [
            (1, (((0, 1, 3), (1, 0, 2)), 4)), (2, (((0, 0, 1),), 1)),
            (3, (((2, 1, 1), (3, 1, 1)), 1)), (4, (((2, 0, 1), (3, 0, 1)), 1)),
            (5, ((), 0)), (6, ((), 0)), (7, ((), 0)),
        ])

    def test_terms_in_any_order_and_of_any_sign(self):
        desk = desk_of(4, "put -999999999 d + 2 a + 1 a >= -999999990")
        self.assertEqual(desk.book().rows(), [(1, (((0, 1, 3), (3, 0, 9)), 9))])

    def test_an_equation_is_two_deeds(self):
        desk = desk_of(4, "put 1 a = 1")
        self.says(desk, "undo", "done")
        self.says(desk, "rows", "1")
        self.assertEqual(desk.book().rows(), [(1, (((0, 1, 1),), 1))])
        self.says(desk, "redo", "done")
        self.says(desk, "rows", "2")
        self.says(desk, "undo", "done")
        self.says(desk, "undo", "done")
        self.unchanged(desk, "undo", "no: nothing left")
        self.says(desk, "redo", "done")
        self.says(desk, "redo", "done")
        self.unchanged(desk, "redo", "no: nothing left")

    def test_a_letter_that_the_book_has_not(self):
        desk = desk_of(4, "put 1 a >= 1", "undo")
        for line in (
            "put 1 e >= 1", "put 1 -l = 1", "put 1 a + 1 e >= 1", "put 1 a + 1 e <= 1", "put 1 a + 1 e = 1",
            "put 1 e >= -1", "put 1 e + -1 e >= 0", "put 1 e + 1 -e = 1", "put 2 l + -2 l <= 5", "put 1 k <= 1",
        ):
            self.unchanged(desk, line, "no: bad term")
        self.says(desk_of(5), "put 1 e + -1 e = 0", "1 2")

    def test_full(self):
        desk = filled(4, 40)
        for line in ("put 1 a >= 1", "put 1 a <= 1", "put 1 a = 1", "put 0 >= 0"):
            self.unchanged(desk, line, "no: full")

    def test_one_place_left(self):
        desk = filled(4, 39)
        self.unchanged(desk, "put 1 a = 1", "no: full")
        self.unchanged(desk, "put 0 = 0", "no: full")
        self.says(desk, "put 1 a >= 1", "40")
        self.says(desk, "undo", "done")
        self.unchanged(desk, "put 1 a = 1", "no: full")
        self.says(desk, "redo", "done")
        self.says(desk, "rows", "40")

    def test_two_places_left(self):
        desk = filled(4, 38)
        self.says(desk, "put 1 a = 1", "39 40")
        self.unchanged(desk, "put 1 a = 1", "no: full")
        self.says(desk, "take 5", "done")
        self.unchanged(desk, "put 1 a = 1", "no: full")
        self.says(desk, "take 6", "done")
        self.says(desk, "put 1 a = 1", "41 42")

    def test_bad_terms_go_ahead_of_full(self):
        for count in (39, 40):
            for line in ("put 1 e = 1", "put 1 e + -1 e = 0", "put 1 a + 1 l = 1"):
                self.unchanged(filled(4, count), line, "no: bad term")
        self.unchanged(filled(4, 40), "put 1 e >= 1", "no: bad term")

    def test_no_relations(self):
        desk = desk_of(4, "put 1 a >= 1", "undo")
        for text in BAD_RELATIONS:
            self.unchanged(desk, "put " + text, "what")
        for number in BAD_NUMBERS:
            self.unchanged(desk, f"put {number} a >= 1", "what")
            self.unchanged(desk, f"put 1 a = {number}", "what")
        self.unchanged(desk, "put", "what")


class TakeAndRun(Saying):
    def test_take(self):
        desk = desk_of(4, "put 1 a >= 1", "put 1 b >= 1")
        self.says(desk, "take 1", "done")
        self.says(desk, "rows", "1")
        for number in (0, 1, 3, 40, 999999999):
            self.unchanged(desk, f"take {number}", "no: no row")

    def test_run(self):
        desk = Desk(12)
        self.says(desk, "run 1", "halted")
        self.says(desk, "run 1000", "yes")
        self.says(desk, "run 1", "yes")
        self.says(desk_of(4, "put 0 >= 1"), "run 999", "no")
        for number in (0, 1001, 999999999):
            self.unchanged(desk, f"run {number}", "no: bad turns")

    def test_no_numbers(self):
        desk = desk_of(4, "put 1 a >= 1", "put 1 a >= 1", "put 1 a >= 1", "undo")
        for word in WITH_NUMBER:
            for number in BAD_NUMBERS + ["-1", "-3", "1 1", "1 a", "a"]:
                self.unchanged(desk, f"{word} {number}", "what")
            self.unchanged(desk, word, "what")


class WishAndFree(Saying):
    def test_wishes(self):
        desk = Desk(4)
        self.says(desk, "wish b", "done")
        self.says(desk, "wish -a", "done")
        self.assertEqual(desk.book().wishes(), [(0, 0), (1, 1)])
        self.unchanged(desk, "wish b", "no: wished")
        self.unchanged(desk, "wish -b", "no: wished")
        self.unchanged(desk, "wish e", "no: no mark")
        self.unchanged(desk, "wish -l", "no: no mark")
        self.says(desk, "free b", "done")
        self.assertEqual(desk.book().wishes(), [(0, 0)])
        for letter in "bcdel":
            self.unchanged(desk, f"free {letter}", "no: no wish")

    def test_no_sides(self):
        desk = desk_of(4, "wish a", "wish b", "undo")
        for side in BAD_SIDES:
            self.unchanged(desk, f"wish {side}", "what")
            self.unchanged(desk, f"free {side}", "what")
        for line in ("wish", "free", "wish c d", "free a a", "free -a", "free -b", "free -l", "wish c ", "free a "):
            self.unchanged(desk, line, "what")


class Goal(Saying):
    def test_goals(self):
        desk = Desk(4)
        self.says(desk, "goal 3 a + 2 -b + 999999999 d", "done")
        self.assertEqual(desk.book().goal_terms(), [(0, 1, 3), (1, 0, 2), (3, 1, 999999999)])
        self.says(desk, "goal 1 c", "done")
        self.assertEqual(desk.book().goal_terms(), [(2, 1, 1)])
        self.says(desk, "goal", "done")
        self.assertEqual(desk.book().goal_terms(), [])
        self.says(desk, "goal", "done")
        self.says(desk, "undo", "done")
        self.says(desk, "undo", "done")
        self.assertEqual(desk.book().goal_terms(), [(2, 1, 1)])

    def test_no_goals(self):
        desk = desk_of(4, "goal 1 a", "goal 1 b", "undo")
        for terms in (
            "3 b + 2 a", "1 a + 1 a", "1 a + 1 -a", "-1 a", "1 a + -1 b", "1 e", "1 a + 1 -l", "1 e + -1 e", "-5 l",
        ):
            self.unchanged(desk, "goal " + terms, "no: bad term")

    def test_no_terms(self):
        desk = desk_of(4, "goal 1 a", "goal 1 b", "undo")
        for terms in (
            "0", "", " ", "0 a", "-0 a", "a", "1", "1 m", "1 a +", "+ 1 a", "1 a + ", "1 a +1 b", "1 a 1 b", "1 a - 1 b",
            "1 a >= 1", "01 a", "1 a + 0 b", "0 + 1 a", "1 a + 0", "none", "1  a", " 1 a", "1 a ", "-", "-a", "1 ab",
        ):
            self.unchanged(desk, "goal " + terms, "what")
        for number in BAD_NUMBERS:
            self.unchanged(desk, f"goal {number} a", "what")


class Asking(Saying):
    def test_ask(self):
        self.says(desk_of(3, "wish a", "wish -b", "wish c"), "ask", "yes a -b c")
        self.says(desk_of(1, "put 1 -a >= 1"), "ask", "yes -a")
        self.says(desk_of(2, "put 1 a + 1 b >= 1", "wish -a", "wish -b"), "ask", "no -a -b")
        self.says(desk_of(2, "put 0 >= 1", "wish -a"), "ask", "no")

    def test_ask_of_many_books(self):
        relations = ["1 a + 1 b >= 1", "1 a + 1 b + 1 c <= 2", "2 a + 3 -b + 1 c = 3", "1 -c + 1 b >= 1", "0 >= 1"]
        for chosen in range(32):
            for wishes in ((), ("a", "-b"), ("-a", "-b", "c"), ("b", "c")):
                desk = desk_of(
                    3, *[f"put {text}" for at, text in enumerate(relations) if chosen >> at & 1],
                    *[f"wish {side}" for side in wishes], "goal 5 a + 3 -b + 2 c",
                )
                self.check_asked(desk, [read_side(side) for side in wishes])

    def check_asked(self, desk, wishes):
        book = desk.book()
        rows = [row for number, row in book.rows()]
        before = standing(desk)
        word, *sides = desk.say("ask").split(" ")
        sides = [read_side(side) for side in sides]
        ways = so_ways(3, rows, wishes)
        self.assertEqual(word, "yes" if ways else "no")
        if ways:
            self.assertIn([want for mark, want in sides], ways)
            self.assertEqual([mark for mark, want in sides], [0, 1, 2])
            self.says(desk, "clash", "none")
        else:
            self.assertTrue(set(sides) <= set(wishes))
            self.assertEqual(so_ways(3, rows, sides), [])
            self.check_clash(desk.say("clash"), rows)
        worths = [comes_to(book.goal_terms(), way) for way in so_ways(3, rows)]
        self.says(desk, "least", str(min(worths)) if worths else "none")
        self.says(desk, "count", str(len(worths)))
        self.says(desk, "rows", str(len(rows)))
        self.says(desk, "page", page(book))
        self.assertEqual(standing(desk), before)

    def check_clash(self, told, rows):
        if not so_ways(3, rows):
            self.assertEqual(told, "always")
            return
        sides = [read_side(side) for side in told.split(" ")]
        self.assertEqual(sides, sorted(sides))
        self.assertEqual(so_ways(3, rows, sides), [])
        for side in sides:
            self.assertNotEqual(so_ways(3, rows, [other for other in sides if other != side]), [])

    def test_clash(self):
        self.says(desk_of(4, "put 1 -a + 1 -b >= 1", "wish a", "wish b", "wish c"), "clash", "a b")
        self.says(desk_of(4, "put 1 a >= 1", "wish -a"), "clash", "-a")
        self.says(Desk(), "clash", "none")
        self.says(desk_of(4, "put 0 >= 1"), "clash", "always")
        self.says(desk_of(4, "put 0 >= 1", "wish a"), "clash", "always")

    def test_least(self):
        self.says(Desk(), "least", "0")
        desk = desk_of(2, "goal 5 a + 4 b", "put 1 a + 1 b >= 1", "wish a")
        self.says(desk, "least", "4")
        self.says(desk, "put 0 >= 1", "2")
        self.says(desk, "least", "none")
        nines = "999999999"
        self.says(desk_of(2, f"goal {nines} a + {nines} b", "put 1 a + 1 b >= 2"), "least", "1999999998")

    def test_count_and_rows(self):
        desk = desk_of(4, "wish a")
        self.says(desk, "count", "16")
        self.says(desk, "put 1 a = 1", "1 2")
        self.says(desk, "count", "8")
        self.says(desk, "rows", "2")

    def test_page(self):
        desk = desk_of(4, "put 3 a + 2 -b >= 4", "wish c", "goal 2 d")
        self.says(desk, "page", "marks 4 2\n1 3 a + 2 -b >= 4\nwish c\ngoal 2 d\n")
        self.assertEqual(read_page(desk.say("page")), desk.book())


class UndoAndRedo(Saying):
    def test_each_deed(self):
        lines = ["put 1 a + 1 b >= 1", "wish -a", "run 1", "goal 1 a", "run 1000", "free a", "take 1", "goal", "run 5"]
        desk = Desk(4)
        stages = [looks(desk.book())]
        for line in lines:
            desk.say(line)
            stages.append(looks(desk.book()))
        for stage in stages[-2::-1]:
            self.says(desk, "undo", "done")
            self.assertEqual(looks(desk.book()), stage)
        self.unchanged(desk, "undo", "no: nothing left")
        for stage in stages[1:]:
            self.says(desk, "redo", "done")
            self.assertEqual(looks(desk.book()), stage)
        self.unchanged(desk, "redo", "no: nothing left")


class What(Saying):
    def desk(self):
        """A desk whose book has something of everything, to take back and to do again too."""
        return desk_of(4, "put 1 a + 1 b >= 1", "wish a", "goal 2 c", "run 1", "put 1 d >= 1", "undo")

    def test_blanks_at_the_ends_and_together(self):
        desk = self.desk()
        lines = ["put 1 a + 1 b >= 1", "take 1", "wish -c", "free a", "goal 1 a + 2 b", "run 3"] + list(LONE)
        for line in lines:
            self.unchanged(desk, " " + line, "what")
            self.unchanged(desk, line + " ", "what")
            self.unchanged(desk, " " + line + " ", "what")
            for at, sign in enumerate(line):
                if sign == " ":
                    self.unchanged(desk, line[:at] + " " + line[at:], "what")
                    self.unchanged(desk, line[:at] + "\t" + line[at + 1:], "what")

    def test_lines_of_no_form(self):
        desk = self.desk()
        for line in (
            "", " ", "  ", "\n", "x", "what", "done", "Put 1 a >= 1", "PUT 1 a >= 1", "puts 1 a >= 1", "put1 a >= 1",
            "1 a >= 1", "3 a", "Rows", "row", "rows\n", "\nrows", "rows\t", "book", "marks", "wishes", "word", "learnt",
            "twin", "coming", "help", "exit", "put\n1 a >= 1", "put\u00a01 a >= 1", "takes 1", "runs 1", "answer",
            "rows rows", "rows\nrows",
        ):
            self.unchanged(desk, line, "what")

    def test_something_behind_a_lone_word(self):
        desk = self.desk()
        for word in LONE:
            for more in ("0", "x", "undo", "-", "\n", "a", "1"):
                self.unchanged(desk, f"{word} {more}", "what")

    def test_nothing_behind_a_word(self):
        desk = self.desk()
        for word in ("put", "take", "wish", "free", "run"):
            self.unchanged(desk, word, "what")

    def test_words_in_other_letters(self):
        desk = self.desk()
        for word in WORDS:
            self.unchanged(desk, word.upper(), "what")
            self.unchanged(desk, word.capitalize(), "what")
            self.unchanged(desk, word + "s", "what")


class Books(Saying):
    def test_a_twin(self):
        desk = desk_of(4, "put 1 a + 1 b >= 1", "wish -a", "run 1000", "goal 1 a", "undo")
        twin = desk.book()
        self.assertIsInstance(twin, Book)
        self.assertEqual(twin.word(), "yes")
        before = standing(desk)
        twin.redo()
        self.assertEqual(twin.goal_terms(), [(0, 1, 1)])
        for step in range(4):
            twin.undo()
        self.assertRaises(NothingLeft, twin.undo)
        twin.put([], 1)
        self.assertEqual(standing(desk), before)
        stood = looks(twin)
        desk.say("put 0 >= 1")
        self.assertEqual(looks(twin), stood)

    def test_new_ones_each_time(self):
        desk = Desk()
        desk.book().put([], 1)
        self.assertEqual(desk.book(), Book())
        self.assertIsNot(desk.book(), desk.book())

    def test_two_desks(self):
        one, other = Desk(4), Desk(4)
        due = standing(other)
        for line in ("put 1 a = 1", "wish a", "goal 1 a", "run 5", "undo"):
            one.say(line)
        self.assertEqual(standing(other), due)
        self.says(other, "redo", "no: nothing left")
        self.says(other, "put 1 b >= 1", "1")
        self.says(one, "rows", "2")


if __name__ == "__main__":
    unittest.main()
