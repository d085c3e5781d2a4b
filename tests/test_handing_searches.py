"""Point [2] for searches, goals, clauses and ways: what is handed in and told, its names and its defaults."""

import unittest
from copy import deepcopy
from inspect import Parameter, signature

from tests.helper import BAR, clause_of, halved, pigeons
from weighrow import clauses, goals, search, ways
from weighrow.errors import BadMany, BadTurns, NoWay, TooGreat
from weighrow.search import Search

NEEDED = Parameter.empty
INTERFACE = {
    search.Search: {"many": NEEDED, "rows": NEEDED, "wishes": None},
    search.answer: {"many": NEEDED, "rows": NEEDED, "wishes": None},
    search.least_clash: {"many": NEEDED, "rows": NEEDED, "wishes": NEEDED},
    goals.comes_to: {"goal": NEEDED, "way": NEEDED},
    goals.under: {"goal": NEEDED, "worth": NEEDED},
    goals.by_bounds: {"many": NEEDED, "rows": NEEDED, "goal": NEEDED},
    goals.by_cores: {"many": NEEDED, "rows": NEEDED, "goal": NEEDED},
    clauses.by_tree: {"row": NEEDED, "first": NEEDED},
    clauses.by_counter: {"row": NEEDED, "first": NEEDED},
    clauses.by_sorter: {"row": NEEDED, "first": NEEDED},
    clauses.clause_row: {"clause": NEEDED},
    clauses.clause_so: {"clause": NEEDED, "way": NEEDED},
    ways.ways: {"many": NEEDED, "rows": NEEDED},
    ways.count: {"many": NEEDED, "rows": NEEDED},
    ways.number_of: {"many": NEEDED, "rows": NEEDED, "way": NEEDED},
    ways.numbered: {"many": NEEDED, "rows": NEEDED, "number": NEEDED},
}
SEARCH_METHODS = {
    "run": {"turns": 1}, "word": {}, "way": {}, "clash": {}, "log": {}, "learnt": {}, "twin": {},
}
ROW = (((0, 1, 2), (1, 0, 1), (3, 1, 1)), 3)
EITHER = clause_of((0, 1), (1, 1))
LONG = halved([123, 229, 331, 437, 541, 643, 747, 854, 1001])


def names_of(call):
    return {name: told.default for name, told in signature(call).parameters.items() if name != "self"}


class Names(unittest.TestCase):
    def test_functions(self):
        for call, names in INTERFACE.items():
            self.assertEqual(list(names_of(call).items()), list(names.items()), call)

    def test_methods_stand_in_the_class_itself(self):
        for name, names in SEARCH_METHODS.items():
            self.assertIn(name, vars(Search))
            self.assertEqual(names_of(vars(Search)[name]), names)

    def test_handed_in_by_name(self):
        told = Search(wishes=[(0, 0)], rows=[EITHER], many=2)
        self.assertEqual(told.run(turns=1000), "yes")
        self.assertEqual(told.way(), [0, 1])
        self.assertEqual(search.answer(wishes=[(0, 0)], rows=[EITHER], many=2), ("yes", [0, 1]))
        self.assertEqual(search.least_clash(wishes=[(1, 0), (0, 0)], rows=[EITHER], many=2), [(0, 0), (1, 0)])
        self.assertEqual(goals.comes_to(way=[1, 0], goal=[(0, 1, 5)]), 5)
        self.assertEqual(goals.under(worth=1, goal=[(0, 1, 5)]), (((0, 0, 5),), 5))
        for call in (goals.by_bounds, goals.by_cores):
            self.assertEqual(call(goal=[(0, 1, 5), (1, 1, 4)], rows=[EITHER], many=2)[:2], (4, [0, 1]))
        for call in (clauses.by_tree, clauses.by_counter, clauses.by_sorter):
            self.assertEqual(call(first=8, row=ROW), call(ROW, 8))
        self.assertEqual(clauses.clause_row(clause=((0, 1), (1, 1))), EITHER)
        self.assertTrue(clauses.clause_so(way=[1], clause=((0, 1),)))
        self.assertEqual(ways.ways(rows=[EITHER], many=2), [[0, 1], [1, 0], [1, 1]])
        self.assertEqual(ways.count(rows=[EITHER], many=2), 3)
        self.assertEqual(ways.number_of(way=[1, 0], rows=[EITHER], many=2), 1)
        self.assertEqual(ways.numbered(number=1, rows=[EITHER], many=2), [1, 0])

    def test_wishes_left_out(self):
        self.assertEqual(search.answer(2, [EITHER]), search.answer(2, [EITHER], None))
        self.assertEqual(search.answer(2, [EITHER]), search.answer(2, [EITHER], []))
        # A default that were kept from call to call would show here.
        search.answer(2, [EITHER], [(0, 1)])
        self.assertEqual(search.answer(2, [EITHER]), search.answer(2, [EITHER], []))


class HandedIn(unittest.TestCase):
    """Each call leaves what it is handed as it was, also where it refuses, and tells the same again."""

    def unchanged(self, call, *things):
        before = deepcopy(things)
        told = call(*things)
        self.assertEqual(things, before)
        self.assertEqual(call(*things), told)
        return told

    def refused(self, error, call, *things):
        before = deepcopy(things)
        self.assertRaises(error, call, *things)
        self.assertEqual(things, before)

    def test_searches(self):
        for rows in ([EITHER], [EITHER, BAR], pigeons(3, 2, True), []):
            for wishes in ([(5, 1), (1, 0), (0, 0)], []):
                self.unchanged(search.answer, 6, rows, wishes)
                self.unchanged(search.least_clash, 6, rows, wishes)
        self.refused(BadMany, search.answer, 13, [EITHER], [(1, 0), (0, 0)])
        self.refused(BadMany, search.least_clash, 0, [EITHER], [(1, 0), (0, 0)])
        self.refused(BadMany, Search, 0, [EITHER], [(1, 0), (0, 0)])

    def test_goals(self):
        goal = [(0, 1, 2), (1, 0, 9), (3, 1, 1)]
        self.unchanged(goals.comes_to, goal, [0, 0, 1, 1])
        self.unchanged(goals.under, goal, 7)
        for call in (goals.by_bounds, goals.by_cores):
            self.unchanged(call, 4, [EITHER, ROW], goal)
            self.unchanged(call, 4, [EITHER, BAR], goal)
            self.refused(BadMany, call, 13, [EITHER, BAR], goal)

    def test_clauses(self):
        for call in (clauses.by_tree, clauses.by_counter, clauses.by_sorter):
            self.unchanged(call, ROW, 4)
            self.refused(TooGreat, call, (tuple((mark, 1, 1) for mark in range(400)), 1), 400)
        self.unchanged(clauses.clause_so, ((0, 1), (1, 0)), [0, 1])

    def test_ways(self):
        self.unchanged(ways.ways, 4, [EITHER, ROW])
        self.unchanged(ways.count, 4, [EITHER, ROW])
        self.unchanged(ways.number_of, 4, [EITHER, ROW], [1, 0, 0, 0])
        self.unchanged(ways.numbered, 4, [EITHER, ROW], 2)
        self.refused(NoWay, ways.number_of, 4, [EITHER, ROW], [0, 0, 0, 0])
        self.refused(NoWay, ways.numbered, 4, [EITHER, ROW], -1)


class ChangedLater(unittest.TestCase):
    def test_what_a_search_was_handed(self):
        for wishes in ([(8, 1), (0, 0)], [(0, 1)], []):
            due = Search(9, LONG, wishes)
            rows, own = list(LONG), list(wishes)
            changed = Search(9, rows, own)
            rows.clear()
            own.append((3, 1))
            while due.word() == "halted":
                self.assertEqual(changed.run(), due.run())
                rows.append(BAR)
                own.clear()
            self.assertEqual(changed.log(), due.log())
            self.assertEqual(changed.clash(), due.clash())
            self.assertEqual(changed.learnt(), due.learnt())

    def test_what_a_search_tells(self):
        told = Search(2, [EITHER], [(0, 0)])
        told.run(1000)
        told.way().clear()
        told.way()[0] = 7
        self.assertEqual(told.way(), [0, 1])
        told = Search(2, [EITHER], [(0, 0), (1, 0)])
        told.run(1000)
        due = (told.clash(), told.log())
        told.clash().append((5, 1))
        told.log().lines().clear()
        told.log().held.clear()
        self.assertEqual((told.clash(), told.log()), due)

    def test_what_a_halted_search_tells(self):
        changed, due = Search(9, LONG), Search(9, LONG)
        while due.word() == "halted":
            self.assertEqual(changed.run(7), due.run(7))
            changed.learnt().append((BAR, (1,)))
            changed.learnt().clear()
            self.assertEqual(changed.learnt(), due.learnt())
        self.assertEqual(changed.log(), due.log())

    def test_learnt_rows_are_tuples_all_through(self):
        told = Search(9, LONG)
        told.run(100)
        for pair in told.learnt():
            self.assertIs(type(pair), tuple)
            row, numbers = pair
            self.assertEqual([type(thing) for thing in (row, row[0], numbers)], [tuple] * 3)
            self.assertTrue(all(type(term) is tuple for term in row[0]))

    def test_a_told_way_is_handed_in_again(self):
        told = ways.numbered(2, [EITHER], 1)
        told[0] = 0
        self.assertEqual(ways.numbered(2, [EITHER], 1), [1, 0])
        found = ways.ways(2, [EITHER])
        found[0].clear()
        found.clear()
        self.assertEqual(ways.ways(2, [EITHER]), [[0, 1], [1, 0], [1, 1]])

    def test_told_ways_have_nothing_to_do_with_one_another(self):
        found = ways.ways(3, [])
        found[0][2] = 9
        self.assertEqual(found[1:], ways.ways(3, [])[1:])

    def test_what_functions_were_handed_and_told(self):
        rows, goal, wishes = [EITHER], [(0, 1, 2), (1, 1, 3)], [(0, 0), (1, 0)]
        calls = [
            lambda: search.answer(2, rows, wishes), lambda: search.least_clash(2, rows, wishes),
            lambda: goals.by_bounds(2, rows, goal), lambda: goals.by_cores(2, rows, goal),
            lambda: clauses.by_tree(ROW, 9), lambda: clauses.by_counter(ROW, 9), lambda: clauses.by_sorter(ROW, 9),
        ]
        due = [deepcopy(call()) for call in calls]
        first = [call() for call in calls]
        for told in [call() for call in calls]:
            for part in [told] if isinstance(told, list) else told:
                if isinstance(part, list):
                    part.clear()
        self.assertEqual([call() for call in calls], due)
        rows.clear()
        goal.clear()
        wishes.clear()
        self.assertEqual(first, due)

    def test_what_a_refused_run_leaves(self):
        changed, due = Search(9, LONG), Search(9, LONG)
        while due.word() == "halted":
            self.assertRaises(BadTurns, changed.run, 0)
            self.assertRaises(NoWay, changed.way)
            self.assertRaises(NoWay, changed.log)
            self.assertEqual(changed.run(9), due.run(9))
        self.assertEqual(changed.log(), due.log())

    def test_twins_share_nothing(self):
        first = Search(9, LONG)
        first.run(40)
        twin = first.twin()
        self.assertIsNot(twin.hunt.workings, first.hunt.workings)
        due = (first.learnt(), first.word())
        twin.run(1000)
        self.assertEqual((first.learnt(), first.word()), due)


if __name__ == "__main__":
    unittest.main()
