"""Point [16]: the ways in which all rows are so, counted and numbered."""

import unittest

from tests.helper import ALWAYS, BAR, HUGE, all_ways, clause_of, mixed_rows, pigeons, so_ways
from weighrow.errors import BadMany, NoWay
from weighrow.ways import count, number_of, numbered, ways


class Ways(unittest.TestCase):
    def test_all_in_their_order(self):
        for many in (1, 2, 3, 4):
            for seed in range(40):
                rows = mixed_rows(seed, many)
                due = so_ways(many, rows)
                self.assertEqual(ways(many, rows), due)
                self.assertEqual(ways(many, rows), sorted(due))
                self.assertEqual(count(many, rows), len(due))

    def test_told_ones(self):
        rows = [(((0, 1, 3), (1, 0, 2), (2, 1, 1)), 3)]
        self.assertEqual(ways(3, rows), [[0, 0, 1], [1, 0, 0], [1, 0, 1], [1, 1, 0], [1, 1, 1]])
        self.assertEqual(number_of(3, rows, [1, 0, 1]), 2)
        self.assertEqual(numbered(3, rows, 3), [1, 1, 0])

    def test_marks_that_no_row_names(self):
        self.assertEqual(ways(2, [clause_of((0, 1))]), [[1, 0], [1, 1]])
        self.assertEqual(ways(1, []), [[0], [1]])
        self.assertEqual(ways(2, [ALWAYS]), all_ways(2))

    def test_twelve_marks(self):
        self.assertEqual(count(12, []), 4096)
        self.assertEqual(numbered(12, [], 4095), [1] * 12)
        self.assertEqual(number_of(12, [], [0] * 11 + [1]), 1)
        self.assertEqual(count(12, pigeons(3, 4, False)), len(so_ways(12, pigeons(3, 4, True))))

    def test_there_and_back(self):
        for seed in range(40):
            rows = mixed_rows(seed, 4)
            for number, way in enumerate(so_ways(4, rows)):
                self.assertEqual(number_of(4, rows, way), number)
                self.assertEqual(numbered(4, rows, number), way)

    def test_none(self):
        for rows in ([BAR], [clause_of((0, 1)), clause_of((0, 0))]):
            self.assertEqual(ways(2, rows), [])
            self.assertEqual(count(2, rows), 0)
            self.assertRaises(NoWay, numbered, 2, rows, 0)
            self.assertRaises(NoWay, number_of, 2, rows, [0, 0])


class Refused(unittest.TestCase):
    def test_numbers_out_of_bounds(self):
        for seed in range(20):
            rows = mixed_rows(seed, 3)
            total = len(so_ways(3, rows))
            for number in (-1, -total, -total - 1, total, total + 1, HUGE, -HUGE):
                if not 0 <= number < total:
                    self.assertRaises(NoWay, numbered, 3, rows, number)

    def test_ways_in_which_the_rows_are_not_so(self):
        for seed in range(20):
            rows = mixed_rows(seed, 3)
            for way in all_ways(3):
                if way not in so_ways(3, rows):
                    self.assertRaises(NoWay, number_of, 3, rows, way)

    def test_many_ahead_of_all(self):
        for many in (0, -1, 13, HUGE, -HUGE):
            self.assertRaises(BadMany, ways, many, [BAR])
            self.assertRaises(BadMany, count, many, [])
            self.assertRaises(BadMany, number_of, many, [BAR], [])
            self.assertRaises(BadMany, number_of, many, [BAR], [0])
            self.assertRaises(BadMany, numbered, many, [BAR], 0)
            self.assertRaises(BadMany, numbered, many, [], -1)


if __name__ == "__main__":
    unittest.main()
