import unittest

from tests.helper import ALWAYS, BAR, HUGE, all_ways, loose_rows
from weighrow.errors import BadLine, NoLine
from weighrow.logs import Log
from weighrow.rows import added, divided, is_so, weakened

GIVEN = [
    (3, (((0, 1, 2), (1, 1, 1)), 2)),
    (8, (((0, 0, 1), (2, 1, 1)), 1)),
    (1, (((2, 0, 1),), 1)),
    (HUGE, (((0, 0, 1),), 1)),
]
LINES = [
    ("row", 3), ("row", 8), ("add", 0, 1, 1, 2), ("divide", 2, 2), ("row", 1),
    ("add", 3, 1, 4, 1), ("weaken", 5, 1), ("row", HUGE), ("weaken", 0, 1), ("add", 8, 1, 7, 1),
]
ROWS = [
    GIVEN[0][1], GIVEN[1][1], (((1, 1, 1), (2, 1, 2)), 2), (((1, 1, 1), (2, 1, 1)), 1), GIVEN[2][1],
    (((1, 1, 1),), 1), ALWAYS, GIVEN[3][1], (((0, 1, 1),), 1), BAR,
]
# Two lines that are right, so that each wrong line below has lines ahead of it.
START = [("row", 3), ("row", 1)]
WRONG = [
    (),
    ("",), ("rows", 3), ("Row", 3), ("sum", 0, 1, 0, 1), ("row ", 3), ("divided", 0, 2),
    ("row",), ("row", 3, 3), ("add",), ("add", 0, 1, 1), ("add", 0, 1), ("add", 0, 1, 1, 1, 1),
    ("divide",), ("divide", 0), ("divide", 0, 2, 1), ("weaken",), ("weaken", 0), ("weaken", 0, 1, 1),
    ("row", 0), ("row", 2), ("row", -3), ("row", HUGE + 1),
    ("add", 2, 1, 0, 1), ("add", 0, 1, 2, 1), ("add", 3, 1, 0, 1), ("add", -1, 1, 0, 1), ("add", 0, 1, -1, 1),
    ("add", 0, 1, HUGE, 1), ("divide", 2, 2), ("divide", 3, 2), ("divide", -1, 2), ("divide", -2, 2),
    ("weaken", 2, 0), ("weaken", 3, 0), ("weaken", -1, 2), ("weaken", -2, 0),
    ("add", 0, 0, 1, 1), ("add", 0, 1, 1, 0), ("add", 0, -1, 1, 1), ("add", 0, 1, 1, -HUGE),
    ("divide", 0, 0), ("divide", 0, -2),
    ("weaken", 0, 2), ("weaken", 1, 0), ("weaken", 0, -1), ("weaken", 0, 9999),
]


class Rows(unittest.TestCase):
    def test_each_kind_of_line(self):
        self.assertEqual(Log(LINES).rows(GIVEN), ROWS)

    def test_by_the_calls_for_rows(self):
        made = Log(LINES).rows(GIVEN)
        self.assertEqual(made[2], added(made[0], made[1], 1, 2))
        self.assertEqual(made[3], divided(made[2], 2))
        self.assertEqual(made[8], weakened(made[0], 1))

    def test_times_go_with_the_first_line_and_more_with_the_other(self):
        rows = Log([("row", 3), ("row", 8), ("add", 0, 5, 1, 2), ("add", 1, 5, 0, 2)]).rows(GIVEN)
        self.assertEqual(rows[2], (((0, 1, 8), (1, 1, 5), (2, 1, 2)), 10))
        self.assertEqual(rows[3], (((0, 0, 1), (1, 1, 2), (2, 1, 5)), 5))

    def test_a_line_may_be_added_to_itself(self):
        self.assertEqual(Log([("row", 1), ("add", 0, 2, 0, 3)]).rows(GIVEN)[1], (((2, 0, 5),), 5))

    def test_given_rows_in_any_order_more_than_needed(self):
        self.assertEqual(Log(LINES).rows(GIVEN[::-1] + [(99, BAR)]), ROWS)

    def test_without_lines(self):
        self.assertEqual(Log([]).rows(GIVEN), [])
        self.assertEqual(Log([]).rows([]), [])

    def test_great_numbers(self):
        lines = [("row", HUGE), ("add", 0, HUGE, 0, HUGE ** 2), ("divide", 1, HUGE)]
        weight = HUGE + HUGE ** 2
        self.assertEqual(Log(lines).rows(GIVEN)[1:], [(((0, 0, weight),), weight), (((0, 0, HUGE + 1),), HUGE + 1)])

    def test_lines_are_so_where_the_given_rows_are(self):
        rows = loose_rows(12, 3, seed=5)
        given = [(7 * at, row) for at, row in enumerate(rows)]
        lines = [("row", number) for number, row in given]
        for at in range(len(lines)):
            lines += [("add", at, 2, len(lines) - 1, 3), ("divide", len(lines), 2)]
        made = Log(lines).rows(given)
        leans = Log(lines).leans()
        known = dict(given)
        asked = 0
        for way in all_ways(3):
            for row, numbers in zip(made, leans):
                if all(is_so(known[number], way) for number in numbers):
                    self.assertTrue(is_so(row, way))
                    asked += len(numbers) > 1
        self.assertGreater(asked, 0)


class WrongLines(unittest.TestCase):
    def check(self, lines, at, given=GIVEN):
        for ask in (Log(lines).rows, Log(lines).bars):
            with self.assertRaises(BadLine) as caught:
                ask(given)
            self.assertEqual((caught.exception.at, caught.exception.called), (at, "bad line"), lines)

    def test_the_start_is_right(self):
        self.assertEqual(len(Log(START).rows(GIVEN)), 2)

    def test_each_wrong_line_as_the_last(self):
        for line in WRONG:
            self.check(START + [line], 2)

    def test_each_wrong_line_that_the_last_does_not_need(self):
        for line in WRONG:
            self.check(START + [line, ("row", 8), ("divide", 0, 2)], 2)

    def test_each_wrong_line_as_the_first(self):
        for line in WRONG:
            self.check([line, ("row", 3)], 0)

    def test_a_wrong_line_behind_the_bar(self):
        self.check(LINES + [("row", 77), ("add", 9, 1, 9, 1)], len(LINES))

    def test_the_first_of_several(self):
        for line in WRONG:
            self.check(START + [line, (), line], 2)

    def test_lines_that_come_later_are_not_ahead(self):
        self.check([("divide", 1, 2), ("row", 3)], 0)
        self.check([("row", 3), ("add", 0, 1, 2, 1), ("row", 3)], 1)

    def test_no_row_given(self):
        self.check(LINES, 0, [])
        self.check(LINES, 4, GIVEN[:2])

    def test_a_mark_that_the_row_lost(self):
        self.check([("row", 3), ("weaken", 0, 1), ("weaken", 1, 1)], 2)
        self.check([("row", 3), ("row", HUGE), ("add", 0, 1, 1, 2), ("weaken", 2, 0)], 3)


class Bars(unittest.TestCase):
    def test_the_last_line_decides(self):
        self.assertIs(Log(LINES).bars(GIVEN), True)
        self.assertIs(Log(LINES[:-1]).bars(GIVEN), False)
        self.assertIs(Log(LINES + [("row", 3)]).bars(GIVEN), False)
        self.assertIs(Log([("row", 5)]).bars([(5, BAR)]), True)

    def test_other_rows_that_are_never_so_do_not_bar(self):
        self.assertIs(Log([("row", 5)]).bars([(5, (((0, 1, 1),), 2))]), False)
        self.assertIs(Log([("row", 5)]).bars([(5, ALWAYS)]), False)

    def test_without_lines(self):
        self.assertIs(Log([]).bars(GIVEN), False)
        self.assertIs(Log([]).bars([(1, BAR)]), False)


class Leans(unittest.TestCase):
    def test_each_line(self):
        self.assertEqual(Log(LINES).leans(), [
            (3,), (8,), (3, 8), (3, 8), (1,), (1, 3, 8), (1, 3, 8), (HUGE,), (3,), (3, HUGE),
        ])

    def test_each_number_once(self):
        log = Log([("row", 4), ("row", 4), ("add", 0, 1, 1, 1), ("row", 2), ("add", 3, 1, 2, 1), ("add", 4, 1, 2, 1)])
        self.assertEqual(log.leans(), [(4,), (4,), (4,), (2,), (2, 4), (2, 4)])

    def test_without_lines(self):
        self.assertEqual(Log([]).leans(), [])

    def test_many_steps(self):
        lines = [("row", 5)] + [("divide", at, 1) for at in range(3000)]
        self.assertEqual(Log(lines).leans()[-1], (5,))


class Cut(unittest.TestCase):
    def test_each_line(self):
        log = Log(LINES)
        self.assertEqual(log.cut(0).lines(), [("row", 3)])
        self.assertEqual(log.cut(4).lines(), [("row", 1)])
        self.assertEqual(log.cut(6).lines(), LINES[:7])
        self.assertEqual(log.cut(9).lines(), [("row", 3), ("row", HUGE), ("weaken", 0, 1), ("add", 2, 1, 1, 1)])
        self.assertEqual(log.lines(), LINES)

    def test_only_the_names_of_lines_get_new_numbers(self):
        lines = [("row", 9), ("row", 3), ("row", 1), ("add", 2, 2, 1, 1), ("divide", 3, 3), ("weaken", 4, 1)]
        self.assertEqual(Log(lines).cut(5).lines(), [
            ("row", 3), ("row", 1), ("add", 1, 2, 0, 1), ("divide", 2, 3), ("weaken", 3, 1),
        ])

    def test_its_last_row_is_that_lines(self):
        for at, row in enumerate(ROWS):
            self.assertEqual(Log(LINES).cut(at).rows(GIVEN)[-1], row)
            self.assertEqual(Log(LINES).cut(at).leans()[-1], Log(LINES).leans()[at])

    def test_is_a_log_of_its_own(self):
        self.assertIsInstance(Log(LINES).cut(3), Log)

    def test_no_such_line(self):
        for at in (10, 11, -1, -10, HUGE, -HUGE):
            with self.assertRaises(NoLine):
                Log(LINES).cut(at)
        for at in (0, -1):
            with self.assertRaises(NoLine):
                Log([]).cut(at)

    def test_many_steps(self):
        lines = [("row", 5), ("row", 6)] + [("divide", at - 1 if at > 2 else 0, 1) for at in range(2, 3000)]
        self.assertEqual(len(Log(lines).cut(2999)), 2999)


class Without(unittest.TestCase):
    def test_each_number(self):
        log = Log(LINES)
        self.assertEqual(log.without(3).lines(), [("row", 8), ("row", 1), ("row", HUGE)])
        self.assertEqual(log.without(8).lines(), [
            ("row", 3), ("row", 1), ("row", HUGE), ("weaken", 0, 1), ("add", 3, 1, 2, 1),
        ])
        self.assertEqual(log.without(1).lines(), LINES[:4] + [("row", HUGE), ("weaken", 0, 1), ("add", 5, 1, 4, 1)])
        self.assertEqual(log.without(HUGE).lines(), LINES[:7] + [("weaken", 0, 1)])
        self.assertEqual(log.lines(), LINES)

    def test_a_number_on_which_nothing_leans(self):
        for number in (0, 2, -1, 99):
            self.assertEqual(Log(LINES).without(number), Log(LINES))

    def test_what_is_left_are_the_rows_that_do_not_lean_on_it(self):
        for number, row in GIVEN:
            log = Log(LINES).without(number)
            kept = [row for row, leans in zip(ROWS, Log(LINES).leans()) if number not in leans]
            self.assertEqual(log.rows([pair for pair in GIVEN if pair[0] != number]), kept)

    def test_down_to_nothing(self):
        self.assertEqual(Log([("row", 2), ("divide", 0, 2)]).without(2).lines(), [])
        self.assertEqual(Log([]).without(2).lines(), [])


class Joined(unittest.TestCase):
    def test_lines_of_both(self):
        one = Log([("row", 3), ("divide", 0, 2)])
        other = Log([("row", 8), ("row", 1), ("add", 0, 1, 1, 2), ("weaken", 2, 0), ("divide", 3, 3)])
        joined = one.joined(other)
        self.assertIsInstance(joined, Log)
        self.assertEqual(joined.lines(), [
            ("row", 3), ("divide", 0, 2),
            ("row", 8), ("row", 1), ("add", 2, 1, 3, 2), ("weaken", 4, 0), ("divide", 5, 3),
        ])
        self.assertEqual(one.lines(), [("row", 3), ("divide", 0, 2)])
        self.assertEqual(other.lines()[2:], [("add", 0, 1, 1, 2), ("weaken", 2, 0), ("divide", 3, 3)])

    def test_rows_of_both(self):
        self.assertEqual(Log(LINES[:4]).joined(Log(LINES)).rows(GIVEN), ROWS[:4] + ROWS)

    def test_with_itself_and_with_nothing(self):
        log = Log(LINES)
        self.assertEqual(log.joined(log).rows(GIVEN), ROWS + ROWS)
        self.assertEqual(log.joined(Log([])), log)
        self.assertEqual(Log([]).joined(log), log)
        self.assertEqual(len(log), len(LINES))


class WrongLinesStayWrong(unittest.TestCase):
    def test_joined_cut_and_without(self):
        for line in WRONG:
            wrong = Log(START + [line])
            for log, at in (
                (Log(LINES).joined(wrong), len(LINES) + 2),
                (wrong.joined(Log(LINES)), 2),
                (wrong.cut(2), len(wrong.cut(2)) - 1),
                (Log([("row", 8)]).joined(wrong).without(8), 2),
            ):
                with self.assertRaises(BadLine) as caught:
                    log.rows(GIVEN)
                self.assertEqual(caught.exception.at, at, line)


class LengthAndEquality(unittest.TestCase):
    def test_length(self):
        self.assertEqual(len(Log([])), 0)
        self.assertEqual(len(Log(LINES)), 10)

    def test_equal_by_lines(self):
        self.assertIs(Log(LINES) == Log(list(LINES)), True)
        self.assertIs(Log([]) == Log([]), True)
        self.assertIs(Log(LINES) == Log(LINES[:-1]), False)
        self.assertIs(Log(LINES) != Log(LINES[:-1]), True)
        self.assertIs(Log([("row", 1), ("row", 2)]) == Log([("row", 2), ("row", 1)]), False)
        self.assertIs(Log([("row", HUGE)]) == Log([("row", HUGE + 1)]), False)

    def test_unlike_anything_else(self):
        for other in (LINES, tuple(LINES), [], None, 0, "", str(Log(LINES)), False):
            self.assertIs(Log(LINES) == other, False)
            self.assertIs(other == Log([]), False)
            self.assertIs(Log([]) == other, False)


if __name__ == "__main__":
    unittest.main()
