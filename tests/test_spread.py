import unittest
from itertools import permutations

from tests.helper import ALWAYS, BAR, HUGE, all_ways, loose_rows, plain_rows, side_lists
from weighrow.rows import is_so
from weighrow.spread import slack, spread, tells

ROW = (((0, 1, 3), (1, 0, 2), (3, 1, 1)), 4)


def slack_by_words(row, sets):
    return sum(weight for mark, want, weight in row[0] if (mark, 1 - want) not in sets) - row[1]


def spread_by_words(rows, sets):
    """One side at a time, from the first row on, again and again."""
    now = list(sets)
    while True:
        if any(slack_by_words(row, now) < 0 for row in rows):
            return None
        told = [
            (mark, want) for row in rows for mark, want, weight in row[0]
            if weight > slack_by_words(row, now) and mark not in dict(now)
        ]
        if not told:
            return sorted(now)
        now.append(told[0])


class Slack(unittest.TestCase):
    def test_with_nothing_set(self):
        self.assertEqual(slack(ROW), 2)
        self.assertEqual(slack(ROW, None), 2)
        self.assertEqual(slack(ROW, []), 2)

    def test_only_other_sides_lessen_it(self):
        self.assertEqual(slack(ROW, [(0, 1), (1, 0), (3, 1)]), 2)
        self.assertEqual(slack(ROW, [(2, 0), (9999, 1)]), 2)
        self.assertEqual(slack(ROW, [(0, 0)]), -1)
        self.assertEqual(slack(ROW, [(1, 1)]), 0)
        self.assertEqual(slack(ROW, [(3, 0), (0, 1)]), 1)
        self.assertEqual(slack(ROW, [(3, 0), (1, 1)]), -1)
        self.assertEqual(slack(ROW, [(3, 0), (1, 1), (0, 0)]), -4)

    def test_without_terms(self):
        self.assertEqual(slack(ALWAYS), 0)
        self.assertEqual(slack(BAR), -1)
        self.assertEqual(slack(BAR, [(0, 1)]), -1)

    def test_great_numbers(self):
        self.assertEqual(slack((((0, 1, HUGE), (1, 1, HUGE ** 2)), HUGE ** 2)), HUGE)
        self.assertEqual(slack((((0, 1, HUGE), (1, 1, 1)), HUGE), [(0, 0)]), 1 - HUGE)

    def test_by_the_words(self):
        for row in plain_rows(60, 3):
            for sets in side_lists(3):
                self.assertEqual(slack(row, sets), slack_by_words(row, sets))


class Tells(unittest.TestCase):
    def test_with_nothing_set(self):
        self.assertEqual(tells(ROW), [(0, 1)])
        self.assertEqual(tells(ROW, []), [(0, 1)])
        self.assertEqual(tells((((0, 1, 1), (1, 0, 1)), 1)), [])

    def test_weights_above_the_slack_only(self):
        self.assertEqual(tells((((0, 1, 1), (1, 0, 2), (2, 1, 3)), 4)), [(2, 1)])
        self.assertEqual(tells((((0, 1, 1), (1, 0, 2), (2, 1, 3)), 5)), [(1, 0), (2, 1)])
        self.assertEqual(tells((((0, 1, 1), (1, 0, 2), (2, 1, 3)), 6)), [(0, 1), (1, 0), (2, 1)])

    def test_marks_that_are_set_are_not_told(self):
        self.assertEqual(tells(ROW, [(0, 1)]), [])
        self.assertEqual(tells(ROW, [(1, 1)]), [(0, 1), (3, 1)])
        self.assertEqual(tells(ROW, [(3, 1), (1, 1)]), [(0, 1)])
        self.assertEqual(tells(ROW, [(3, 0)]), [(0, 1), (1, 0)])

    def test_barred(self):
        self.assertEqual(tells(ROW, [(0, 0)]), [])
        self.assertEqual(tells(BAR), [])
        self.assertEqual(tells((((0, 1, 1), (5, 1, 1)), 3)), [])

    def test_always(self):
        self.assertEqual(tells(ALWAYS), [])

    def test_just_what_each_way_of_the_row_has(self):
        for row in plain_rows(60, 3):
            for sets in side_lists(3):
                so = [way for way in all_ways(3) if is_so(row, way) and all(way[mark] == want for mark, want in sets)]
                marks = [mark for mark in range(3) if mark not in dict(sets)]
                due = [(mark, want) for mark in marks for want in (0, 1) if so and all(way[mark] == want for way in so)]
                self.assertEqual(tells(row, sets), due, (row, sets))
                self.assertEqual(slack(row, sets) < 0, not so)


class Spread(unittest.TestCase):
    CHAIN = [
        (((0, 1, 1),), 1), (((0, 0, 1), (3, 1, 1)), 1), (((1, 0, 1), (3, 0, 1)), 1),
        (((1, 1, 2), (2, 1, 1), (4, 0, 1)), 2),
    ]

    def test_a_chain(self):
        self.assertEqual(spread(self.CHAIN), [(0, 1), (1, 0), (2, 1), (3, 1), (4, 0)])
        self.assertEqual(spread(self.CHAIN[1:]), [])

    def test_sides_handed_in_are_told_too(self):
        self.assertEqual(spread([], [(7, 0), (2, 1)]), [(2, 1), (7, 0)])
        self.assertEqual(spread(self.CHAIN[1:2], [(9999, 1), (0, 1)]), [(0, 1), (3, 1), (9999, 1)])

    def test_nothing_at_all(self):
        for sets in (None, []):
            self.assertEqual(spread([], sets), [])
            self.assertEqual(spread([ALWAYS], sets), [])

    def test_barred(self):
        self.assertIsNone(spread([BAR]))
        self.assertIsNone(spread([ALWAYS, BAR], [(0, 1)]))
        self.assertIsNone(spread(self.CHAIN, [(4, 1)]))
        self.assertIsNone(spread([(((0, 1, 1),), 1), (((0, 0, 1),), 1)]))
        self.assertIsNone(spread([(((0, 1, 1),), 1)], [(0, 0)]))
        self.assertIsNone(spread([(((0, 1, 1),), 2)]))

    def test_in_another_order_and_twice_the_same(self):
        for sets in ([], [(4, 1)], [(2, 0)], [(1, 0)]):
            due = spread(self.CHAIN, sets)
            for order in permutations(self.CHAIN):
                self.assertEqual(spread(list(order), sets[::-1]), due)
                self.assertEqual(spread(list(order) + self.CHAIN, sets), due)

    def test_by_the_words(self):
        ends = set()
        for seed in range(40):
            rows = loose_rows(4, 4, seed)
            for sets in side_lists(4):
                due = spread_by_words(rows, sets)
                self.assertEqual(spread(rows, sets), due, (rows, sets))
                self.assertEqual(spread(rows[::-1], sets[::-1]), due)
                self.assertEqual(spread(rows + rows, sets), due)
                ends.add(None if due is None else len(due) - len(sets))
        # The rows must be such that spreading ends in each manner, or the loop above shows little.
        self.assertEqual(ends, {None, 0, 1, 2, 3, 4})

    def test_a_long_chain_against_its_order(self):
        rows = [(((mark, 0, 1), (mark + 1, 1, 1)), 1) for mark in range(9999)]
        self.assertEqual(spread(rows[::-1], [(0, 1)]), [(mark, 1) for mark in range(10000)])

    def test_great_numbers(self):
        rows = [(((0, 1, HUGE), (1, 1, HUGE), (2, 1, 1)), 2 * HUGE)]
        self.assertEqual(spread(rows), [(0, 1), (1, 1)])
        self.assertIsNone(spread(rows, [(1, 0)]))


if __name__ == "__main__":
    unittest.main()
