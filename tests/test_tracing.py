"""The inner steps of a search: workings, trails, and rows traced back along them."""

import unittest

from tests.helper import ALWAYS, BAR, HUGE, clause_of, loose_rows, side_lists
from weighrow.spread import slack, tells
from weighrow.tracing import depth_of_use, kept_small, told_once, traced, weakened_all, weight_at
from weighrow.trail import Trail
from weighrow.workings import Workings


def workings_of(*rows):
    workings = Workings()
    for number, row in enumerate(rows):
        workings.give(number, row)
    return workings


class WorkingsOfLines(unittest.TestCase):
    def test_lines_and_rows(self):
        workings = workings_of((((0, 1, 2), (1, 1, 1)), 2), clause_of((0, 0)))
        self.assertEqual(workings.make(("add", 0, 1, 1, 2)), 2)
        self.assertEqual(workings.row_at(2), (((1, 1, 1),), 2))
        self.assertEqual(workings.make(("weaken", 0, 0)), 3)
        self.assertEqual(workings.row_at(3), ALWAYS)
        self.assertEqual(workings.log_to([3]).lines(), [("row", 0), ("weaken", 0, 0)])
        self.assertEqual(workings.leans_at([2, 0, 3]), [(0, 1), (0,), (0,)])

    def test_copies(self):
        workings = workings_of(BAR)
        other = workings.copied()
        other.give(7, ALWAYS)
        self.assertEqual((len(workings.steps), len(other.steps)), (1, 2))
        self.assertEqual((len(workings.results), len(other.results)), (1, 2))


class Trails(unittest.TestCase):
    def made(self):
        trail = Trail([(3, 1)])
        trail.set_side((4, 0), 9)
        trail.choose((0, 0))
        trail.set_side((1, 1), 5)
        trail.choose((2, 1))
        return trail

    def test_wants(self):
        trail = self.made()
        self.assertEqual(trail.wants_at(0), {3: 1, 4: 0})
        self.assertEqual(trail.wants_at(1), {3: 1, 4: 0, 0: 0, 1: 1})
        self.assertEqual(trail.wants, trail.wants_at(2))

    def test_back(self):
        for depth in (0, 1):
            trail = self.made()
            trail.go_back(depth)
            self.assertEqual(trail.wants, self.made().wants_at(depth))
            self.assertEqual(trail.depth, depth)
            self.assertEqual(len(trail.entries), len(trail.wants))

    def test_copies(self):
        trail = self.made()
        other = trail.copied()
        other.go_back(0)
        other.choose((7, 1))
        self.assertEqual(trail.wants, self.made().wants)
        self.assertEqual(trail.entries, self.made().entries)

    def test_depth_of_use(self):
        trail = self.made()
        self.assertEqual(depth_of_use(clause_of((2, 0)), trail), 0)
        self.assertEqual(depth_of_use(clause_of((1, 0), (2, 0)), trail), 1)
        self.assertEqual(depth_of_use(clause_of((1, 0), (2, 0), (5, 1)), trail), 2)
        self.assertEqual(depth_of_use(clause_of((3, 0), (4, 1)), trail), 0)
        self.assertEqual(depth_of_use(ALWAYS, trail), 2)


class Steps(unittest.TestCase):
    def test_told_once(self):
        found = 0
        for row in loose_rows(150, 5, 2) + [(((0, 1, HUGE), (1, 1, HUGE - 2), (2, 1, 3), (3, 0, 1)), HUGE + 1)]:
            for sets in side_lists(5)[::3]:
                for mark, want in tells(row, sets):
                    workings = workings_of(row)
                    made = workings.row_at(told_once(workings, 0, mark, dict(sets)))
                    self.assertEqual(weight_at(made, mark), 1)
                    self.assertEqual(slack(made, sets), 0)
                    self.assertIn((mark, want), tells(made, sets))
                    found += 1
        self.assertGreater(found, 500)

    def test_kept_small(self):
        row = (((0, 1, HUGE ** 2), (1, 0, HUGE ** 3), (2, 1, 5), (3, 1, HUGE ** 3 - 1)), HUGE ** 3 + 1)
        for sets in side_lists(4):
            if slack(row, sets) < 0:
                workings = workings_of(row)
                made = workings.row_at(kept_small(workings, 0, dict(sets)))
                self.assertLess(slack(made, sets), 0)
                self.assertTrue(all(weight == 1 for mark, want, weight in made[0]))
                self.assertLessEqual(made[1], 4)

    def test_small_rows_are_kept(self):
        workings = workings_of((((0, 1, 5), (1, 1, 10 ** 60)), 10 ** 60))
        self.assertEqual(kept_small(workings, 0, {1: 0}), 0)
        self.assertEqual(len(workings.steps), 1)

    def test_weakened_down_to_the_bar(self):
        for row in ((((0, 1, 1), (1, 0, 2)), 4), BAR, (((5, 1, HUGE),), HUGE + 1)):
            workings = workings_of(row)
            self.assertEqual(workings.row_at(weakened_all(workings, 0, {})), BAR)

    def test_traced_at_depth_0(self):
        workings = workings_of(clause_of((0, 0), (1, 1)), clause_of((1, 0), (2, 1)))
        trail = Trail([(0, 1), (2, 0), (7, 1)])
        trail.set_side((1, 1), 0)
        row = workings.row_at(traced(workings, 1, trail))
        self.assertEqual(row, clause_of((0, 0), (2, 1)))

    def test_traced_to_a_depth_ahead(self):
        workings = workings_of(clause_of((0, 0), (1, 1)), clause_of((0, 0), (1, 0), (5, 0)))
        trail = Trail([])
        trail.choose((5, 1))
        trail.choose((3, 1))
        trail.choose((0, 1))
        trail.set_side((1, 1), 0)
        row = workings.row_at(traced(workings, 1, trail))
        self.assertEqual(row, clause_of((0, 0), (5, 0)))
        self.assertEqual(depth_of_use(row, trail), 1)


if __name__ == "__main__":
    unittest.main()
