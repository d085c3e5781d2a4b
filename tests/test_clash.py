"""Point [12]: least clashes."""

import unittest

from tests.helper import ALWAYS, BAR, HUGE, clause_of, loose_rows, mixed_rows, pigeons, side_lists, so_ways
from weighrow.errors import BadMany
from weighrow.search import least_clash


class LeastClash(unittest.TestCase):
    def check(self, many, rows, wishes):
        told = least_clash(many, rows, wishes)
        if so_ways(many, rows, wishes):
            self.assertIsNone(told)
            return told
        self.assertIs(type(told), list)
        self.assertEqual(told, sorted(told))
        self.assertTrue(set(told) <= set(wishes))
        self.assertEqual(so_ways(many, rows, told), [])
        for side in told:
            self.assertTrue(so_ways(many, rows, [other for other in told if other != side]), (rows, wishes, told))
        if not so_ways(many, rows):
            self.assertEqual(told, [])
        return told

    def test_all_wishes_of_a_few_marks(self):
        lengths = set()
        for many in (1, 2, 3):
            for seed in range(30):
                rows = mixed_rows(seed, many)
                for wishes in side_lists(many):
                    told = self.check(many, rows, wishes)
                    lengths.add(None if told is None else len(told))
        self.assertEqual(lengths, {None, 0, 1, 2, 3})

    def test_wishes_on_more_marks_against_their_order(self):
        for seed in range(40):
            rows = loose_rows(4, 6, seed)
            for wishes in side_lists(6)[seed % 11::83]:
                self.check(6, rows, wishes[::-1])

    def test_each_of_several_clashes_can_be_the_one(self):
        rows = [clause_of((0, 0), (1, 0)), clause_of((2, 0), (3, 0))]
        told = self.check(4, rows, [(3, 1), (2, 1), (1, 1), (0, 1)])
        self.assertIn(told, ([(0, 1), (1, 1)], [(2, 1), (3, 1)]))

    def test_one_that_needs_all_wishes(self):
        row = (tuple((mark, 0, 1) for mark in range(12)), 1)
        wishes = [(mark, 1) for mark in range(12)]
        self.assertEqual(least_clash(12, [row], wishes), wishes)
        self.assertIsNone(least_clash(12, [row], wishes[1:]))

    def test_a_lone_wish_that_cannot_be(self):
        rows = [clause_of((5, 1))] + loose_rows(3, 4)
        self.assertEqual(self.check(6, [clause_of((5, 1))], [(mark, 0) for mark in range(6)]), [(5, 0)])
        self.check(6, rows, [(5, 0), (0, 1)])

    def test_rows_that_no_way_has(self):
        never_so = (((0, 1, 1), (1, 1, HUGE)), 2 * HUGE)
        for rows in ([BAR], [ALWAYS, BAR], pigeons(3, 2, True), [(((0, 1, 1),), 2)], [never_so]):
            for wishes in ([], [(0, 1)], [(0, 0), (1, 1)], [(mark, 0) for mark in range(6)]):
                self.assertEqual(least_clash(6, rows, wishes), [])

    def test_no_wishes_and_no_rows(self):
        self.assertIsNone(least_clash(3, [], []))
        self.assertIsNone(least_clash(3, [ALWAYS], [(0, 1), (2, 0)]))
        self.assertIsNone(least_clash(3, [clause_of((0, 1))], []))

    def test_pigeons_and_holes(self):
        for by_pairs in (True, False):
            self.check(12, pigeons(3, 4, by_pairs), [(mark, 0) for mark in range(12)])
            self.check(12, pigeons(3, 4, by_pairs), [(mark, 1) for mark in range(0, 12, 4)])
            self.check(12, pigeons(4, 3, by_pairs), [(mark, 1) for mark in range(12)])

    def test_many(self):
        for many in (0, -1, 13, HUGE):
            self.assertRaises(BadMany, least_clash, many, [BAR], [(0, 1)])


if __name__ == "__main__":
    unittest.main()
