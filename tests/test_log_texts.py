import unittest

from tests.helper import HUGE
from weighrow.errors import BadText
from weighrow.logs import Log, read_log

TEXT = "row 3\nrow 0\nadd 0 2 1 1\ndivide 2 3\nweaken 3 7\n"
LINES = [("row", 3), ("row", 0), ("add", 0, 2, 1, 1), ("divide", 2, 3), ("weaken", 3, 7)]
BAD_ROWS = [
    "", " ", "row", "row ", "row  3", " row 3", "row 3 ", "row\t3", "row 3\t", "row3", "row 3\r", "\rrow 3",
    "row 03", "row 00", "row +3", "row -3", "row -0", "row 3.0", "row 3_0", "row 1e3", "row x", "row 0x3", "row 3,",
    "row 1000000000", "row 0000000003", "row \u0663", "row \u00b2", "row \uff13", "row\u00a03",
    "row 3 4", "add 0 1 0", "add 0 1 0 1 1", "add", "add 0 01 0 1", "add 0 1 -1 1", "add 0 1 0 1000000000",
    "add 0 1  0 1", "divide 0", "divide 0 1 2", "divide", "divide 00 1", "weaken 0", "weaken 0 1 2", "weaken",
    "weaken 0 +1", "Row 3", "ROW 3", "rows 3", "sum 0 1 0 1", "3", "row three", "line 3", "#", "row 3;", "row (3)",
    "row 3\x0b", "row 3\x0c", "row 3\u2028", "row 3\x85",
]


class Written(unittest.TestCase):
    def test_each_kind_of_line(self):
        self.assertEqual(str(Log(LINES)), TEXT)

    def test_without_lines(self):
        self.assertEqual(str(Log([])), "")

    def test_great_numbers(self):
        self.assertEqual(str(Log([("row", HUGE)])), f"row {HUGE}\n")
        self.assertEqual(str(Log([("divide", 0, 10 ** 5000)])), "divide 0 1" + "0" * 5000 + "\n")

    def test_a_log_that_is_not_right_is_written_too(self):
        self.assertEqual(str(Log([("row", -2), ("add", 5, 0, 9, 0)])), "row -2\nadd 5 0 9 0\n")


class Read(unittest.TestCase):
    def test_what_was_written(self):
        self.assertIsInstance(read_log(TEXT), Log)
        self.assertEqual(read_log(TEXT).lines(), LINES)
        self.assertEqual(read_log(TEXT), Log(LINES))
        self.assertEqual(str(read_log(TEXT)), TEXT)

    def test_the_empty_text(self):
        self.assertEqual(read_log("").lines(), [])

    def test_numbers_whatever_they_name(self):
        text = "divide 999999999 0\nadd 5 0 7 0\nweaken 0 100000000\nrow 999999999\n"
        self.assertEqual(read_log(text).lines(), [
            ("divide", 999999999, 0), ("add", 5, 0, 7, 0), ("weaken", 0, 100000000), ("row", 999999999),
        ])


class Refused(unittest.TestCase):
    def check(self, text, row):
        with self.assertRaises(BadText) as caught:
            read_log(text)
        self.assertEqual((caught.exception.row, caught.exception.called), (row, "bad text"), repr(text))

    def test_each_bad_row(self):
        for row in BAD_ROWS:
            self.check(row + "\n", 0)
            self.check(TEXT + row + "\n", 5)
            self.check("row 1\n" + row + "\n" + TEXT, 1)

    def test_the_first_of_several(self):
        for row in BAD_ROWS:
            self.check("row 1\nrow 2\n" + row + "\nrow\nrow 3", 2)

    def test_the_last_line_feed_gone(self):
        self.check(TEXT[:-1], 4)
        self.check("row 3", 0)
        self.check("row 3\nrow 4", 1)
        self.check("row 3\nrow", 1)
        self.check("x", 0)
        self.check("x\nrow 3", 0)

    def test_an_empty_row(self):
        self.check("\n", 0)
        self.check("\n" + TEXT, 0)
        self.check(TEXT + "\n", 5)
        self.check("row 3\n\nrow 4\n", 1)

    def test_other_line_ends(self):
        self.check(TEXT.replace("\n", "\r\n"), 0)
        self.check("row 3\n\r", 1)

    def test_each_text_with_one_character_off_or_doubled_is_told_by_its_row(self):
        for at in range(len(TEXT)):
            for text in (TEXT[:at] + TEXT[at + 1:], TEXT[:at] + TEXT[at] + TEXT[at:]):
                try:
                    self.assertEqual(str(read_log(text)), text)
                except BadText as error:
                    rows = text.split("\n")
                    self.assertEqual(str(read_log("".join(row + "\n" for row in rows[:error.row]))),
                                     "".join(row + "\n" for row in rows[:error.row]))


if __name__ == "__main__":
    unittest.main()
