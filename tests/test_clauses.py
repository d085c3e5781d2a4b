"""Points [14] and [15]: rows led to clauses, and their spreading."""

import unittest
from itertools import product

from tests.helper import ALWAYS, BAR, HUGE, all_ways, loose_rows, plain_rows
from weighrow.clauses import by_counter, by_sorter, by_tree, clause_row, clause_so
from weighrow.errors import TooGreat
from weighrow.rows import plain
from weighrow.spread import slack, spread, tells

ALL = (by_tree, by_counter, by_sorter)
NEVER_SO = (((0, 1, 1), (1, 0, 2)), 5)


def marks_of(row):
    return [term[0] for term in row[0]]


def rows_to_lead():
    """Rows of a few marks, of all kinds."""
    told = [ALWAYS, BAR, NEVER_SO, (((4, 0, 1),), 1), (((0, 1, 2),), 3)]
    spaced = [
        (tuple((3 * mark, want, weight) for mark, want, weight in terms), least)
        for terms, least in loose_rows(20, 4, 9)
    ]
    return told + loose_rows(40, 4) + plain_rows(40, 4) + spaced


def choices_of(clauses, fixed, further):
    """How many choices of what the further marks are make all clauses so, where the other marks are fixed."""
    left = []
    for clause in clauses:
        if any(fixed.get(mark) == want for mark, want in clause):
            continue
        left.append([side for side in clause if side[0] not in fixed])
    if [] in left:
        return 0
    units = [clause[0] for clause in left if len(clause) == 1]
    free = [mark for mark in further if mark not in fixed]
    if units:
        return choices_of(left, {**fixed, units[0][0]: units[0][1]}, further)
    if not free:
        return 1
    return sum(choices_of(left, {**fixed, free[0]: want}, further) for want in (0, 1))


def choices_by_words(clauses, fixed, further):
    """The same, by trying each."""
    found = 0
    for wants in product((0, 1), repeat=len(further)):
        now = {**fixed, **dict(zip(further, wants))}
        found += all(any(now[mark] == want for mark, want in clause) for clause in clauses)
    return found


def tree_marks(row):
    """How many further marks a tree has, by the words of [14]."""
    terms, least = row
    found = 0
    for at in range(len(terms)):
        ahead = [[0, weight] for mark, want, weight in terms[:at]]
        needed = {least - sum(taken) for taken in product(*ahead)}
        rest = sum(weight for mark, want, weight in terms[at:])
        found += len([number for number in needed if 0 < number <= rest])
    return found


class Shapes(unittest.TestCase):
    def check_clauses(self, row, first, told):
        self.assertIs(type(told), tuple)
        clauses, behind = told
        self.assertIs(type(clauses), list)
        for clause in clauses:
            self.assertIs(type(clause), tuple)
            marks = [mark for mark, want in clause]
            self.assertEqual(marks, sorted(set(marks)), clause)
            self.assertTrue(all(mark in marks_of(row) or first <= mark < behind for mark in marks), clause)
            self.assertTrue(all(type(side) is tuple and side[1] in (0, 1) for side in clause))

    def check_choices(self, call, row, first):
        told = call(row, first)
        self.check_clauses(row, first, told)
        clauses, behind = told
        marks = marks_of(row)
        further = list(range(first, behind))
        for wants in product((0, 1), repeat=len(marks)):
            fixed = dict(zip(marks, wants))
            so = sum(weight for mark, want, weight in row[0] if fixed[mark] == want) >= row[1]
            self.assertEqual(choices_of(clauses, fixed, further), int(so), (call, row, wants))
            if len(further) <= 6:
                self.assertEqual(choices_by_words(clauses, fixed, further), int(so), (call, row, wants))
        return behind - first

    def test_just_one_choice_where_the_row_is_so(self):
        for call in ALL:
            for at, row in enumerate(rows_to_lead()):
                if call == by_sorter and sum(weight for mark, want, weight in row[0]) > 16:
                    continue
                above = max(marks_of(row), default=-1) + 1
                self.check_choices(call, row, (above, above + 1, 500, 9000)[at % 4])

    def test_each_further_mark_is_in_some_clause(self):
        for call in (by_tree, by_counter):
            for row in loose_rows(20, 4):
                clauses, behind = call(row, 20)
                used = {mark for clause in clauses for mark, want in clause if mark >= 20}
                self.assertEqual(used, set(range(20, behind)))

    def test_how_many_further_marks(self):
        for row in rows_to_lead():
            self.assertEqual(by_tree(row, 50)[1], 50 + tree_marks(row), row)
            self.assertEqual(by_counter(row, 50)[1], 50 + len(row[0]) * row[1], row)

    def test_told_counts(self):
        row = (((0, 1, 3), (1, 1, 2), (2, 1, 1)), 4)
        # 4 at the first; 4 cannot be reached any more and 1 is needed at the second; 1 at the third.
        self.assertEqual(by_tree(row, 3)[1], 3 + 1 + 1 + 1)
        self.assertEqual(by_counter(row, 3)[1], 3 + 12)
        self.assertEqual(by_counter(NEVER_SO, 2)[1], 2 + 10)
        self.assertEqual(by_tree(NEVER_SO, 2)[1], 2)

    def test_rows_without_terms(self):
        for call in ALL:
            for first in (0, 1, 77, 9999):
                clauses, behind = call(ALWAYS, first)
                self.assertEqual((clauses, behind), ([], first))
                clauses, behind = call(BAR, first)
                self.assertEqual(behind, first)
                self.assertEqual(choices_of(clauses, {}, []), 0)

    def test_rows_that_are_never_so(self):
        for row in (NEVER_SO, (((0, 1, 1),), 16), (((2, 0, 3), (5, 1, 3)), 7)):
            for call in ALL:
                self.check_choices(call, row, 6)

    def test_each_weight_of_a_sorter_up_to_16(self):
        for terms in range(1, 6):
            for weight in range(1, 16 // terms + 1):
                for least in {weight, weight * terms, weight * terms // 2 + 1}:
                    row = (tuple((mark, mark % 2, min(weight, least)) for mark in range(terms)), least)
                    self.check_choices(by_sorter, row, 30)
        for least in (1, 2, 5, 8):
            self.check_choices(by_sorter, (tuple((mark, 1, 1) for mark in range(8)), least), 8)

    def test_sixteen_marks_in_a_sorter(self):
        for least in (1, 7, 16, 17):
            row = (tuple((mark, 1, 1) for mark in range(16)), least)
            clauses, behind = by_sorter(row, 16)
            for ones in range(17):
                fixed = {mark: int(mark * 7 % 16 < ones) for mark in range(16)}
                self.assertEqual(choices_of(clauses, fixed, range(16, behind)), int(ones >= least))


class Refused(unittest.TestCase):
    def test_a_tree_beyond_300(self):
        row = (tuple((mark, 1, 1) for mark in range(300)), 1)
        self.assertEqual(by_tree(row, 300)[1], 600)
        self.assertRaises(TooGreat, by_tree, (tuple((mark, 1, 1) for mark in range(301)), 1), 301)
        # One number at the first term and at the last one, two at each other.
        row = (tuple((mark, 0, 1) for mark in range(151)), 2)
        self.assertEqual(by_tree(row, 9000)[1], 9300)
        self.assertRaises(TooGreat, by_tree, (tuple((mark, 0, 1) for mark in range(152)), 2), 9000)

    def test_trees_on_both_sides_of_300(self):
        refused = set()
        for terms in range(1, 40):
            for least in (2, 9, 10, 17):
                row = (tuple((mark, 1, 1) for mark in range(terms)), least)
                due = tree_marks_of_units(terms, least)
                refused.add(due > 300)
                if due > 300:
                    self.assertRaises(TooGreat, by_tree, row, 40)
                else:
                    self.assertEqual(by_tree(row, 40)[1], 40 + due)
        self.assertEqual(refused, {True, False})

    def test_a_tree_of_great_weights(self):
        row = plain([(mark, 1, HUGE + 3 ** mark) for mark in range(7)], 4 * HUGE)
        self.assertLessEqual(tree_marks(row), 300)
        self.assertEqual(by_tree(row, 7)[1], 7 + tree_marks(row))
        row = plain([(mark, 1, HUGE + 3 ** mark) for mark in range(12)], 6 * HUGE)
        self.assertGreater(tree_marks(row), 300)
        self.assertRaises(TooGreat, by_tree, row, 12)
        # So many sums of weights that only a tree which stops at once is done in time.
        row = plain([(mark, 1, HUGE + 3 ** mark) for mark in range(200)], 100 * HUGE)
        self.assertRaises(TooGreat, by_tree, row, 200)

    def test_great_weights_are_led(self):
        row = (((0, 1, HUGE), (1, 0, HUGE - 1), (2, 1, 2)), HUGE + 1)
        Shapes().check_choices(by_tree, row, 3)
        self.assertRaises(TooGreat, by_counter, row, 3)
        self.assertRaises(TooGreat, by_sorter, row, 3)
        Shapes().check_choices(by_tree, (((0, 1, 1),), HUGE), 1)
        Shapes().check_choices(by_sorter, (((0, 1, 1),), HUGE), 1)
        self.assertRaises(TooGreat, by_counter, (((0, 1, 1),), HUGE), 1)

    def test_a_counter_beyond_300(self):
        for terms, least in ((300, 1), (150, 2), (100, 3), (1, 300), (20, 15)):
            row = (tuple((mark, 1, 1) for mark in range(terms)), least)
            self.assertEqual(by_counter(row, 301)[1], 601)
        for terms, least in ((301, 1), (151, 2), (1, 301), (43, 7)):
            row = (tuple((mark, 1, 1) for mark in range(terms)), least)
            self.assertRaises(TooGreat, by_counter, row, 302)

    def test_a_sorter_beyond_16(self):
        for weights in ([16], [8, 8], [1] * 16, [10, 3, 3]):
            row = (tuple((mark, 1, weight) for mark, weight in enumerate(weights)), 16)
            Shapes().check_clauses(row, 16, by_sorter(row, 16))
        for weights in ([17], [8, 9], [1] * 17, [10, 3, 4], [HUGE]):
            row = (tuple((mark, 1, weight) for mark, weight in enumerate(weights)), max(weights))
            self.assertRaises(TooGreat, by_sorter, row, 17)
            self.assertRaises(TooGreat, by_sorter, (row[0], HUGE * 2), 17)


def tree_marks_of_units(terms, least):
    """How many further marks the tree of so many weights of 1 has."""
    return sum(
        len([taken for taken in range(at + 1) if 0 < least - taken <= terms - at]) for at in range(terms)
    )


class ClauseRow(unittest.TestCase):
    def test_rows(self):
        self.assertEqual(clause_row(((0, 1), (3, 0))), (((0, 1, 1), (3, 0, 1)), 1))
        self.assertEqual(clause_row(((9999, 0),)), (((9999, 0, 1),), 1))
        self.assertEqual(clause_row(()), BAR)

    def test_so(self):
        for way in all_ways(3):
            self.assertIs(clause_so(((0, 1), (2, 0)), way), way[0] == 1 or way[2] == 0)
            self.assertIs(clause_so(((1, 0),), way), way[1] == 0)
            self.assertIs(clause_so((), way), False)


class Spreading(unittest.TestCase):
    def check(self, call, row, first):
        clauses, behind = call(row, first)
        rows = [clause_row(clause) for clause in clauses]
        marks = marks_of(row)
        for wants in product((None, 0, 1), repeat=len(marks)):
            sets = [(mark, want) for mark, want in zip(marks, wants) if want is not None]
            found = spread(rows, sets)
            if slack(row, sets) < 0:
                self.assertIsNone(found, (call, row, sets))
            else:
                self.assertIsNotNone(found, (call, row, sets))
                own = [side for side in found if side[0] in marks]
                self.assertEqual(own, sorted(sets + tells(row, sets)), (call, row, sets))

    def test_as_the_row_does(self):
        for row in rows_to_lead():
            for call in (by_tree, by_counter):
                self.check(call, row, 20)

    def test_of_more_marks(self):
        for row in loose_rows(8, 6, 4):
            for call in (by_tree, by_counter):
                self.check(call, row, 6)

    def test_of_great_weights(self):
        self.check(by_tree, (((0, 1, HUGE), (1, 0, HUGE - 1), (2, 1, 2), (3, 1, 1)), HUGE + 1), 4)
        self.check(by_tree, (((0, 1, HUGE), (1, 0, HUGE - 1)), 3 * HUGE), 4)


if __name__ == "__main__":
    unittest.main()
