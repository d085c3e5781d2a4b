"""Point [20]: sides, rows and relations as texts."""

import unittest

from tests.helper import ALWAYS, BAR, HUGE, all_ways, comes_to, plain_rows, term_lists
from weighrow.errors import BadText
from weighrow.rows import is_plain, is_so, plain
from weighrow.texts import read_relation, read_side, row_text, side_text

LETTERS = "abcdefghijkl"
NINE = 999999999
BAD_SIDES = [
    "", "-", "m", "-m", "z", "A", "-A", "ab", "-ab", "abcdefghijkl", "--a", "a-", "- a", " a", "a ", "-a ", "a\n", "\na",
    "a\t", "+a", "~a", "0", "1", "1 a", "a b", "\u00e4", "\u0430", "\uff41", "\u2212a", "\u2013a", "`",
]
# Neither weights nor numbers behind a sign.
BAD_NUMBERS = [
    "", "-", "+", "+3", "--3", "- 3", "3-", "00", "01", "007", "-01", "-00", "-0", "3.0", "3,0", "3_0", "1e3", "0x3",
    "x", "a", "1000000000", "-1000000000", "12345678901", "0000000001", "\u0663", "-\u0663", "\u00b2", "\uff13",
    "\u00bd", "\u2212" "3", "3\n", "\t3", "3 ", " 3", "3\u00a0", "3\x0b", "\u200b3",
]
BAD_RELATIONS = [
    "", " ", "\n", "0", "1 a", "1 a >=", ">= 1", " >= 1", ">=", "1 a > 1", "1 a < 1", "1 a == 1", "1 a => 1", "1 a =< 1",
    "1 a != 1", "1 a \u2265 1", "1 a \u2264 1", "1 a >= 1 >= 1", "1 a = 1 = 1", "1 a >= >= 1", "1 a 1", "a >= 1",
    "-a >= 1", "1a >= 1", "1 a>= 1", "1 a >=1", "1 a>=1", "1 a  >= 1", "1 a >=  1", "1  a >= 1", " 1 a >= 1",
    "1 a >= 1 ", "1 a >= 1\n", "\n1 a >= 1", "1 a\n>= 1", "1\ta >= 1", "1 a >= 1\r", "1 a >=\t1", "1 a >= 1\n1 b >= 1",
    "1 a + >= 1", "+ 1 a >= 1", "1 a 2 b >= 1", "1 a +2 b >= 1", "1 a+ 2 b >= 1", "1 a+2 b >= 1", "1 a  + 2 b >= 1",
    "1 a +  2 b >= 1", "1 a + + 2 b >= 1", "1 a ++ 2 b >= 1", "1 a - 2 b >= 1", "1 a , 2 b >= 1", "1 a * 2 b >= 1",
    "0 a >= 1", "-0 a >= 1", "1 a + 0 b >= 1", "0 + 1 a >= 1", "1 a + 0 >= 1", "0 + 0 >= 1", "00 >= 1", "-0 >= 1",
    "0  >= 1", " 0 >= 1", "0 >= 1 ", "0>=1", "1 >= 1", "2 >= 1", "1 m >= 1", "1 A >= 1", "1 ab >= 1", "1 --a >= 1",
    "1 - a >= 1", "1 a >= b", "1 a >= 1 b", "1 a >= -", "a a >= 1", "1 1 >= 1", "1 a b >= 1", "1 1 a >= 1",
    "1 a >= 1.", "(1 a) >= 1", "1 a >= 1 + 1", "1 a >= 1 a",
]


def negative(terms):
    return [(mark, want, -weight) for mark, want, weight in terms]


def written(terms, sign, number):
    """A relation, by the words of [20]."""
    words = [f"{weight} {'' if want else '-'}{LETTERS[mark]}" for mark, want, weight in terms]
    return f"{' + '.join(words) or '0'} {sign} {number}"


class Refusing(unittest.TestCase):
    def refused(self, call, text):
        with self.assertRaises(BadText, msg=repr(text)) as caught:
            call(text)
        self.assertEqual((caught.exception.row, caught.exception.called), (0, "bad text"))


class Sides(Refusing):
    def test_all_there_and_back(self):
        for mark, letter in enumerate(LETTERS):
            self.assertEqual(side_text((mark, 1)), letter)
            self.assertEqual(side_text((mark, 0)), "-" + letter)
            for want in (0, 1):
                self.assertEqual(read_side(side_text((mark, want))), (mark, want))

    def test_kinds(self):
        told = read_side("-c")
        self.assertEqual((told, type(told)), ((2, 0), tuple))

    def test_refused(self):
        for text in BAD_SIDES:
            self.refused(read_side, text)


class Rows(unittest.TestCase):
    def test_the_row_of_the_document(self):
        self.assertEqual(row_text((((0, 1, 3), (1, 0, 2)), 4)), "3 a + 2 -b >= 4")

    def test_no_terms(self):
        self.assertEqual(row_text(ALWAYS), "0 >= 0")
        self.assertEqual(row_text(BAR), "0 >= 1")

    def test_one_term(self):
        self.assertEqual(row_text((((11, 0, 1),), 1)), "1 -l >= 1")
        self.assertEqual(row_text((((4, 1, 10),), 20)), "10 e >= 20")

    def test_all_letters(self):
        row = (tuple((mark, mark % 2, mark + 1) for mark in range(12)), 100)
        self.assertEqual(
            row_text(row),
            "1 -a + 2 b + 3 -c + 4 d + 5 -e + 6 f + 7 -g + 8 h + 9 -i + 10 j + 11 -k + 12 l >= 100",
        )

    def test_numbers_of_any_length(self):
        self.assertEqual(row_text((((0, 1, HUGE),), HUGE + 1)), f"{HUGE} a >= {HUGE + 1}")
        self.assertEqual(row_text((((0, 1, 1),), 10 ** 5000)), "1 a >= 1" + "0" * 5000)

    def test_read_again(self):
        for row in plain_rows(200, 12):
            self.assertEqual(read_relation(row_text(row)), [row])


class Relations(Refusing):
    def test_each_sign(self):
        self.assertEqual(read_relation("3 a + 2 -b >= 4"), [(((0, 1, 3), (1, 0, 2)), 4)])
        self.assertEqual(read_relation("3 a + 2 -b <= 4"), [(((0, 0, 1), (1, 1, 1)), 1)])
        self.assertEqual(
            read_relation("3 a + 2 -b = 4"), [(((0, 1, 3), (1, 0, 2)), 4), (((0, 0, 1), (1, 1, 1)), 1)],
        )

    def test_kinds(self):
        told = read_relation("3 a + 2 -b = 4")
        self.assertEqual([type(told), type(told[0]), type(told[0][0])], [list, tuple, tuple])

    def test_terms_in_any_order(self):
        self.assertEqual(read_relation("2 -b + 3 a >= 4"), read_relation("3 a + 2 -b >= 4"))
        self.assertEqual(read_relation("1 l + 1 a + 1 f >= 2"), [(((0, 1, 1), (5, 1, 1), (11, 1, 1)), 2)])

    def test_a_letter_several_times(self):
        self.assertEqual(read_relation("1 a + 2 a >= 3"), [(((0, 1, 3),), 3)])
        self.assertEqual(read_relation("3 a + 1 -a >= 2"), [(((0, 1, 1),), 1)])
        self.assertEqual(read_relation("1 a + -1 a >= 0"), [ALWAYS])
        self.assertEqual(read_relation("1 a + 1 -a = 1"), [ALWAYS, ALWAYS])
        self.assertEqual(read_relation("1 a + 1 -a >= 2"), [BAR])

    def test_below_nought(self):
        self.assertEqual(read_relation("-3 a >= -1"), [(((0, 0, 2),), 2)])
        self.assertEqual(read_relation("-3 -a >= -1"), [(((0, 1, 2),), 2)])
        self.assertEqual(read_relation("-3 a <= -1"), [(((0, 1, 1),), 1)])
        self.assertEqual(read_relation("1 a >= -1"), [ALWAYS])

    def test_no_terms(self):
        for text, rows in (
            ("0 >= 0", [ALWAYS]), ("0 >= 1", [BAR]), ("0 >= 7", [BAR]), ("0 >= -7", [ALWAYS]), ("0 <= 0", [ALWAYS]),
            ("0 <= -1", [BAR]), ("0 <= 5", [ALWAYS]), ("0 = 0", [ALWAYS, ALWAYS]), ("0 = 1", [BAR, ALWAYS]),
            ("0 = -1", [ALWAYS, BAR]),
        ):
            self.assertEqual(read_relation(text), rows, text)

    def test_one_to_nine_figures(self):
        for figures in range(1, 10):
            number = 10 ** figures - 1
            for text in (f"{number} a >= {number}", f"-{number} -a >= 0"):
                self.assertEqual(read_relation(text), [(((0, 1, number),), number)])
            self.assertEqual(read_relation(f"{number} a <= -{number}"), [(((0, 0, number),), 2 * number)])
        self.assertEqual(read_relation(f"{NINE} a + {NINE} b = {NINE}"), [
            (((0, 1, NINE), (1, 1, NINE)), NINE), (((0, 0, NINE), (1, 0, NINE)), NINE),
        ])

    def test_the_plain_rows_are_so_where_the_relation_is(self):
        for terms, number in term_lists(150, 3, 4):
            terms = [term for term in terms if term[2] != 0]
            for sign in (">=", "<=", "="):
                rows = read_relation(written(terms, sign, number))
                due = {">=": [plain(terms, number)], "<=": [plain(negative(terms), -number)]}
                self.assertEqual(rows, due[sign] if sign in due else due[">="] + due["<="])
                self.assertTrue(all(is_plain(row) for row in rows))
                for way in all_ways(3):
                    worth = comes_to(terms, way)
                    holds = {">=": worth >= number, "<=": worth <= number, "=": worth == number}[sign]
                    self.assertEqual(all(is_so(row, way) for row in rows), holds)

    def test_refused(self):
        for text in BAD_RELATIONS:
            self.refused(read_relation, text)

    def test_bad_numbers(self):
        for number in BAD_NUMBERS:
            for sign in (">=", "<=", "="):
                self.refused(read_relation, f"{number} a {sign} 1")
                self.refused(read_relation, f"1 b + {number} -a {sign} 1")
                self.refused(read_relation, f"1 a {sign} {number}")
                self.refused(read_relation, f"0 {sign} {number}")

    def test_bad_sides(self):
        for side in BAD_SIDES:
            self.refused(read_relation, f"1 {side} >= 1")
            self.refused(read_relation, f"1 a + 2 {side} = 1")

    def test_a_character_more_or_less_is_refused_or_read_as_it_stands(self):
        text = "12 a + -3 -b + 1 c <= -4"
        for at in range(len(text) + 1):
            self.refused(read_relation, text[:at] + "\n" + text[at:])
            self.refused(read_relation, text[:at] + " " + text[at:])
            self.refused(read_relation, text[:at] + "\u0661" + text[at:])


if __name__ == "__main__":
    unittest.main()
