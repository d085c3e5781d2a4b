"""Point [2]: what is handed in and told, its names and its defaults."""

import unittest
from copy import deepcopy
from inspect import Parameter, signature

from weighrow import logs, rows, spread
from weighrow.errors import BadLine, BadText, BadTimes, NoLine, NoMark
from weighrow.logs import Log, read_log

ONE = (((0, 1, 2), (1, 1, 1)), 2)
OTHER = (((0, 0, 1), (2, 1, 1)), 1)
LINES = [("row", 3), ("row", 8), ("add", 0, 1, 1, 2), ("divide", 2, 2)]

INTERFACE = {
    rows.plain: {"terms": Parameter.empty, "least": Parameter.empty},
    rows.is_plain: {"row": Parameter.empty},
    rows.is_so: {"row": Parameter.empty, "way": Parameter.empty},
    rows.added: {"one": Parameter.empty, "other": Parameter.empty, "times": 1, "more": 1},
    rows.divided: {"row": Parameter.empty, "by": 2},
    rows.weakened: {"row": Parameter.empty, "mark": Parameter.empty},
    rows.turned: {"row": Parameter.empty},
    logs.Log: {"lines": Parameter.empty},
    logs.read_log: {"text": Parameter.empty},
    spread.slack: {"row": Parameter.empty, "sets": None},
    spread.tells: {"row": Parameter.empty, "sets": None},
    spread.spread: {"rows": Parameter.empty, "sets": None},
}
LOG_METHODS = {
    "lines": [], "rows": ["given"], "bars": ["given"], "leans": [], "cut": ["at"], "without": ["number"],
    "joined": ["other"], "__len__": [], "__eq__": ["other"], "__str__": [],
}


def given():
    return [(3, ONE), (8, OTHER)]


class Names(unittest.TestCase):
    def test_functions(self):
        for call, names in INTERFACE.items():
            found = {name: told.default for name, told in signature(call).parameters.items()}
            self.assertEqual(found, names, call)
            self.assertEqual(list(found), list(names), call)

    def test_methods_stand_in_the_class_itself(self):
        for name, names in LOG_METHODS.items():
            self.assertIn(name, vars(Log))
            self.assertEqual(list(signature(vars(Log)[name]).parameters)[1:], names, name)

    def test_handed_in_by_name(self):
        self.assertEqual(rows.plain(least=2, terms=[(1, 1, 1), (0, 1, 2)]), ONE)
        self.assertTrue(rows.is_plain(row=ONE))
        self.assertTrue(rows.is_so(way=[1, 0], row=ONE))
        self.assertEqual(rows.added(more=2, times=1, other=OTHER, one=ONE), (((1, 1, 1), (2, 1, 2)), 2))
        self.assertEqual(rows.divided(by=2, row=ONE), (((0, 1, 1), (1, 1, 1)), 1))
        self.assertEqual(rows.weakened(mark=1, row=ONE), (((0, 1, 1),), 1))
        self.assertEqual(rows.turned(row=OTHER), (((0, 1, 1), (2, 0, 1)), 2))
        log = Log(lines=LINES)
        self.assertEqual(len(log.rows(given=given())), 4)
        self.assertFalse(log.bars(given=given()))
        self.assertEqual(len(log.cut(at=2)), 3)
        self.assertEqual(len(log.without(number=8)), 1)
        self.assertEqual(len(log.joined(other=log)), 8)
        self.assertEqual(read_log(text=str(log)), log)
        self.assertEqual(spread.slack(sets=[(0, 0)], row=ONE), -1)
        self.assertEqual(spread.tells(sets=[(1, 0)], row=ONE), [(0, 1)])
        self.assertEqual(spread.spread(sets=[(1, 0)], rows=[ONE]), [(0, 1), (1, 0)])


class HandedIn(unittest.TestCase):
    """Each call leaves what it is handed as it was, also where it refuses."""

    def unchanged(self, call, *things):
        before = deepcopy(things)
        told = call(*things)
        again = call(*things)
        self.assertEqual(things, before)
        self.assertEqual(told, again)
        return told

    def test_rows(self):
        for terms in ([(2, 1, -4), (0, 0, 9), (2, 0, 1)], [(0, 1, 0)], []):
            for least in (-2, 0, 3):
                self.unchanged(rows.plain, terms, least)
        self.unchanged(rows.is_so, ONE, [1, 0])

    def test_logs(self):
        log = Log(LINES)
        for call in (log.rows, log.bars):
            self.unchanged(call, given())
        self.unchanged(Log, list(LINES))
        self.unchanged(log.joined, Log([("row", 5), ("divide", 0, 2)]))

    def test_spreading(self):
        self.unchanged(spread.slack, ONE, [(1, 0)])
        self.unchanged(spread.tells, ONE, [(1, 0)])
        self.unchanged(spread.spread, [ONE, OTHER], [(7, 1), (1, 0)])
        self.unchanged(spread.spread, [ONE, OTHER], [(2, 0), (1, 0)])

    def test_refused(self):
        wrong = [(3, ONE)]
        log = Log(LINES)
        with self.assertRaises(BadLine):
            log.rows(wrong)
        self.assertEqual(wrong, [(3, ONE)])
        for call, error in (
            (lambda: log.cut(9), NoLine), (lambda: log.bars([]), BadLine), (lambda: read_log(str(log) + "x"), BadText),
            (lambda: rows.added(ONE, OTHER, 0), BadTimes), (lambda: rows.weakened(ONE, 7), NoMark),
        ):
            with self.assertRaises(error):
                call()
        self.assertEqual(log.lines(), LINES)


class ChangedLater(unittest.TestCase):
    def test_terms(self):
        terms = [(0, 1, 2), (1, 1, 1)]
        row = rows.plain(terms, 2)
        terms.clear()
        self.assertEqual(row, ONE)

    def test_rows_are_tuples_all_through(self):
        for row in (
            rows.plain([(0, 1, 2), (1, 1, 1)], 2), rows.added(ONE, OTHER), rows.divided(ONE), rows.weakened(ONE, 0),
            rows.turned(ONE), Log(LINES).rows(given())[-1], rows.plain([], 0), rows.plain([], 7),
        ):
            self.assertIs(type(row), tuple)
            self.assertIs(type(row[0]), tuple)
            self.assertTrue(all(type(term) is tuple for term in row[0]))
            self.assertEqual(len(row), 2)

    def test_lines_handed_in(self):
        lines = list(LINES)
        log = Log(lines)
        lines[0] = ("row", 99)
        lines.append(("row", 5))
        self.assertEqual(log.lines(), LINES)
        self.assertEqual(len(log), 4)
        self.assertEqual(len(log.rows(given())), 4)

    def test_given_rows_and_told_rows(self):
        pairs = given()
        log = Log(LINES)
        told = log.rows(pairs)
        due = list(told)
        pairs[0] = (3, OTHER)
        pairs.clear()
        self.assertEqual(told, due)
        told[0] = OTHER
        told.clear()
        self.assertEqual(log.rows(given()), due)

    def test_told_lines_and_leans(self):
        log = Log(LINES)
        log.lines().clear()
        log.leans().append((1,))
        log.leans()[0] = (7,)
        self.assertEqual(log.lines(), LINES)
        self.assertEqual(log.leans(), [(3,), (8,), (3, 8), (3, 8)])
        self.assertTrue(all(type(numbers) is tuple for numbers in log.leans()))

    def test_logs_made_of_logs(self):
        log = Log(LINES)
        for made in (log.cut(3), log.without(77), log.joined(Log([])), Log([]).joined(log)):
            made.lines().clear()
            self.assertEqual(made, log)
            self.assertIsNot(made, log)

    def test_sets_and_told_sides(self):
        sets = [(1, 0)]
        told = spread.spread([ONE], sets)
        sets.append((5, 1))
        self.assertEqual(told, [(0, 1), (1, 0)])
        told.clear()
        self.assertEqual(spread.spread([ONE], [(1, 0)]), [(0, 1), (1, 0)])
        handed = [(2, 1), (4, 0)]
        spread.spread([], handed).append((9, 1))
        self.assertEqual(handed, [(2, 1), (4, 0)])
        spread.tells(ONE).append((9, 1))
        self.assertEqual(spread.tells(ONE), [(0, 1)])

    def test_defaults_are_not_kept_from_call_to_call(self):
        self.assertEqual(spread.spread([ONE], [(1, 0)]), [(0, 1), (1, 0)])
        self.assertEqual(spread.spread([OTHER]), [])
        self.assertEqual(spread.spread([]), [])


if __name__ == "__main__":
    unittest.main()
