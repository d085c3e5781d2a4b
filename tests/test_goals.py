"""Point [13]: goals, and the least that they can come to."""

import unittest

from tests.helper import (
    ALWAYS, BAR, HUGE, all_ways, clause_of, comes_to as sum_by_words, halved, loose_rows, mixed_rows, numbered_from_1,
    numbers, pigeons, so_ways,
)
from weighrow.errors import BadMany
from weighrow.goals import by_bounds, by_cores, comes_to, under
from weighrow.logs import Log
from weighrow.rows import is_plain, is_so

GOAL = [(0, 1, 3), (2, 0, 5), (3, 1, 1)]
BOTH = (by_bounds, by_cores)


def goals(count, many, seed=1):
    """So many goals of marks below many, the one without terms among them."""
    run = numbers(seed)
    out = [[]]
    while len(out) < count:
        out.append([(mark, next(run) % 2, 1 + next(run) % 6) for mark in range(many) if next(run) % 3])
    return out


class ComesTo(unittest.TestCase):
    def test_ordinary(self):
        self.assertEqual(comes_to(GOAL, [1, 0, 0, 1]), 9)
        self.assertEqual(comes_to(GOAL, [0, 1, 1, 0]), 0)
        self.assertEqual(comes_to(GOAL, [1, 1, 1, 1]), 4)

    def test_in_all_ways(self):
        for goal in goals(20, 4):
            for way in all_ways(4):
                self.assertEqual(comes_to(goal, way), sum_by_words(goal, way))

    def test_empty_and_great(self):
        self.assertEqual(comes_to([], [0, 1]), 0)
        self.assertEqual(comes_to([(0, 0, HUGE), (1, 1, HUGE)], [0, 1]), 2 * HUGE)


class Under(unittest.TestCase):
    def test_ordinary(self):
        self.assertEqual(under(GOAL, 4), (((0, 0, 3), (2, 1, 5), (3, 0, 1)), 6))
        self.assertEqual(under(GOAL, 1), (((0, 0, 3), (2, 1, 5), (3, 0, 1)), 9))
        self.assertEqual(under(GOAL, 9), (((0, 0, 1), (2, 1, 1), (3, 0, 1)), 1))

    def test_nought_and_below(self):
        self.assertEqual(under(GOAL, 0), (((0, 0, 3), (2, 1, 5), (3, 0, 1)), 10))
        self.assertEqual(under(GOAL, -7), (((0, 0, 3), (2, 1, 5), (3, 0, 1)), 17))
        self.assertEqual(under([], 0), BAR)
        self.assertEqual(under([], -HUGE), BAR)

    def test_beyond_all(self):
        self.assertEqual(under(GOAL, 10), ALWAYS)
        self.assertEqual(under(GOAL, HUGE), ALWAYS)
        self.assertEqual(under([], 1), ALWAYS)

    def test_so_just_where_it_comes_to_less(self):
        for goal in goals(15, 4):
            for worth in range(-3, sum(term[2] for term in goal) + 4):
                row = under(goal, worth)
                self.assertTrue(is_plain(row))
                for way in all_ways(4):
                    self.assertEqual(is_so(row, way), sum_by_words(goal, way) < worth)


class Least(unittest.TestCase):
    def check(self, many, rows, goal):
        ways = so_ways(many, rows)
        for call in BOTH:
            told = call(many, rows, goal)
            if not ways:
                self.assertIsNone(told)
                continue
            least, way, log = told
            self.assertIs(type(told), tuple)
            self.assertIsInstance(log, Log)
            self.assertEqual(least, min(sum_by_words(goal, way) for way in ways), (rows, goal))
            self.assertIn(way, ways)
            self.assertEqual(sum_by_words(goal, way), least)
            self.assertTrue(log.bars(numbered_from_1(rows) + [(0, under(goal, least))]), (rows, goal))
        return told

    def test_rows_and_goals_of_a_few_marks(self):
        leasts = set()
        for many in (1, 2, 3, 4):
            for seed in range(40):
                for goal in goals(5, many, seed):
                    told = self.check(many, mixed_rows(seed, many), goal)
                    leasts.add(None if told is None else told[0])
        self.assertIn(None, leasts)
        self.assertGreater(len(leasts), 8)

    def test_more_marks(self):
        for seed in range(25):
            for goal in goals(3, 8, seed):
                self.check(8, loose_rows(4, 8, seed), goal)

    def test_a_goal_that_rows_hold_up(self):
        rows = [(tuple((mark, 1, 1) for mark in range(12)), 7)]
        self.assertEqual(self.check(12, rows, [(mark, 1, 2) for mark in range(12)])[0], 14)
        self.assertEqual(self.check(12, rows, [(mark, 1, 2 ** mark) for mark in range(12)])[0], 127)
        self.assertEqual(self.check(12, rows, [(mark, 1, 2 ** (11 - mark)) for mark in range(12)])[0], 127)
        self.assertEqual(self.check(12, rows, [(mark, 0, 2 ** mark) for mark in range(12)])[0], 0)

    def test_covers_of_a_ring(self):
        rows = [clause_of((mark, 1), ((mark + 1) % 11, 1)) for mark in range(11)]
        self.assertEqual(self.check(11, rows, [(mark, 1, 1) for mark in range(11)])[0], 6)
        self.check(11, rows, [(mark, 1, 1 + mark * mark) for mark in range(11)])

    def test_pigeons_that_sit_far_off(self):
        self.check(12, pigeons(3, 4, True), [(mark, 1, 1 + mark % 4) for mark in range(12)])
        self.check(12, pigeons(3, 4, False), [(mark, 1, 1 + mark % 4) for mark in range(12)])

    def test_a_lone_way(self):
        rows = [(tuple((mark, mark % 2, 1) for mark in range(6)), 6)]
        self.check(6, rows, [(mark, mark % 2, HUGE + mark) for mark in range(6)])
        self.check(6, rows, [(mark, 1 - mark % 2, HUGE + mark) for mark in range(6)])

    def test_no_way(self):
        uneven = halved([2, 4, 6, 10, 2, 6])
        for rows in ([BAR], pigeons(3, 2, True), pigeons(4, 3, False), [(((0, 1, 1),), 2)], uneven):
            for goal in ([], [(0, 1, 1)], [(0, 0, 3), (3, 1, HUGE)]):
                for call in BOTH:
                    self.assertIsNone(call(12, rows, goal))

    def test_an_empty_goal(self):
        for rows in ([], [ALWAYS], [clause_of((0, 1), (1, 1))]):
            least, way, log = self.check(2, rows, [])
            self.assertEqual(least, 0)
            self.assertTrue(log.bars([(0, BAR)]))

    def test_no_rows(self):
        self.assertEqual(self.check(4, [], GOAL)[:2], (0, [0, 0, 1, 0]))
        self.check(1, [], [(0, 1, 1)])

    def test_great_weights(self):
        rows = [clause_of((0, 1), (1, 1)), clause_of((1, 1), (2, 1)), clause_of((0, 1), (2, 1))]
        told = self.check(3, rows, [(0, 1, HUGE), (1, 1, HUGE + 1), (2, 1, HUGE - 1)])
        self.assertEqual(told[0], 2 * HUGE - 1)

    def test_long_ones(self):
        weights = [258, 780, 144, 542, 725, 638, 650, 367, 699]
        self.check(9, halved(weights), [(mark, 1, 1) for mark in range(9)])
        self.check(9, halved(weights)[:1], [(mark, 1, weight) for mark, weight in enumerate(weights)])

    def test_the_same_again(self):
        rows = loose_rows(5, 6, 3)
        for call in BOTH:
            self.assertEqual(call(6, rows, goals(3, 6)[2]), call(6, rows, goals(3, 6)[2]))

    def test_many(self):
        for many in (0, -1, 13, HUGE, -HUGE):
            for call in BOTH:
                self.assertRaises(BadMany, call, many, [BAR], [(0, 1, 1)])
                self.assertRaises(BadMany, call, many, [], [])


if __name__ == "__main__":
    unittest.main()
