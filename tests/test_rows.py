import unittest
from itertools import permutations, product

from tests.helper import ALWAYS, BAR, HUGE, all_ways, comes_to, loose_rows, plain_rows, term_lists
from weighrow.errors import BadTimes, NoMark
from weighrow.rows import added, divided, is_plain, is_so, plain, turned, weakened

ROW = (((0, 1, 3), (1, 0, 2), (4, 1, 1)), 4)


class Plain(unittest.TestCase):
    def test_each_step_of_the_point(self):
        for terms, least, row in (
            ([(0, 1, 3), (1, 0, 2)], 4, (((0, 1, 3), (1, 0, 2)), 4)),
            ([(1, 0, 2), (0, 1, 3)], 4, (((0, 1, 3), (1, 0, 2)), 4)),
            ([(0, 1, -3)], -1, (((0, 0, 2),), 2)),
            ([(0, 0, -3), (1, 1, 9)], 0, (((0, 1, 3), (1, 1, 3)), 3)),
            ([(0, 1, 1), (0, 1, 2)], 3, (((0, 1, 3),), 3)),
            ([(0, 1, 5), (0, 0, 2), (1, 1, 2)], 5, (((0, 1, 3), (1, 1, 2)), 3)),
            ([(0, 1, 2), (0, 0, 5), (1, 1, 2)], 5, (((0, 0, 3), (1, 1, 2)), 3)),
            ([(0, 1, 2), (0, 0, 2), (1, 1, 1)], 3, (((1, 1, 1),), 1)),
            ([(0, 1, 2), (0, 1, -2), (1, 1, 1)], 1, (((1, 1, 1),), 1)),
            ([(0, 1, 0), (1, 1, 1)], 1, (((1, 1, 1),), 1)),
            ([(0, 1, 9), (1, 1, 2)], 4, (((0, 1, 4), (1, 1, 2)), 4)),
            ([(0, 1, 1)], 2, (((0, 1, 1),), 2)),
        ):
            self.assertEqual(plain(terms, least), row, (terms, least))

    def test_a_least_below_1(self):
        self.assertEqual(plain([(0, 1, 3)], 0), ALWAYS)
        self.assertEqual(plain([(0, 1, 3)], -5), ALWAYS)
        self.assertEqual(plain([(0, 1, 2), (0, 0, 2), (1, 1, 1)], 2), ALWAYS)
        self.assertEqual(plain([(0, 1, -3), (1, 1, 1)], -3), ALWAYS)

    def test_without_terms(self):
        for terms in ([], (), [(5, 1, 0)], [(5, 1, 0), (5, 0, 0)]):
            self.assertEqual(plain(terms, 0), ALWAYS)
            self.assertEqual(plain(terms, -1), ALWAYS)
            self.assertEqual(plain(terms, 1), BAR)
            self.assertEqual(plain(terms, HUGE), BAR)
        self.assertEqual(plain([(0, 1, 1), (0, 0, 1)], 2), BAR)
        self.assertEqual(plain([(0, 1, 1), (0, 0, 1)], 1), ALWAYS)

    def test_is_so_in_just_the_same_ways(self):
        for terms, least in term_lists(400, 4, 4):
            row = plain(terms, least)
            self.assertTrue(is_plain(row), row)
            for way in all_ways(4):
                self.assertEqual(is_so(row, way), comes_to(terms, way) >= least, (terms, least, way))

    def test_all_small_terms_over_two_marks(self):
        sides = [(0, 0), (0, 1), (1, 0), (1, 1)]
        for weights in product((-2, -1, 0, 1, 2), repeat=4):
            terms = [(mark, want, weight) for (mark, want), weight in zip(sides, weights)]
            for least in range(-3, 5):
                row = plain(terms, least)
                self.assertTrue(is_plain(row), row)
                for way in all_ways(2):
                    self.assertEqual(is_so(row, way), comes_to(terms, way) >= least)

    def test_the_order_of_terms_does_not_matter(self):
        terms = [(2, 1, 4), (0, 0, -3), (2, 0, 1), (0, 0, 5), (1, 1, 0)]
        rows = [plain(order, 3) for order in permutations(terms)]
        self.assertEqual(rows, [(((0, 0, 2), (2, 1, 2)), 2)] * len(rows))

    def test_plain_rows_stay(self):
        for row in plain_rows(200, 4):
            self.assertEqual(plain(row[0], row[1]), row)
            self.assertEqual(plain(list(row[0]), row[1]), row)

    def test_great_numbers(self):
        terms = [(9999, 1, HUGE), (0, 0, -HUGE), (9999, 0, 1)]
        self.assertEqual(plain(terms, HUGE), (((0, 1, HUGE), (9999, 1, HUGE - 1)), 2 * HUGE - 1))
        self.assertEqual(plain([(3, 1, 10 ** 90)], 10 ** 80), (((3, 1, 10 ** 80),), 10 ** 80))


class IsPlain(unittest.TestCase):
    def test_plain_ones(self):
        for row in (ROW, ALWAYS, BAR, (((0, 0, 1),), 1), (((9999, 1, HUGE),), HUGE), (((0, 1, 1), (1, 1, 1)), 9)):
            self.assertIs(is_plain(row), True, row)

    def test_bent_in_one_place(self):
        for row in (
            (((0, 1, 0), (1, 0, 2)), 4),
            (((0, 1, 3), (1, 0, 0)), 4),
            (((0, 1, -1), (1, 0, 2)), 4),
            (((0, 1, 5), (1, 0, 2)), 4),
            (((0, 1, 3), (1, 0, 5)), 4),
            (((-1, 1, 3), (1, 0, 2)), 4),
            (((0, 1, 3), (10000, 0, 2)), 4),
            (((0, 2, 3), (1, 0, 2)), 4),
            (((0, 1, 3), (1, -1, 2)), 4),
            (((0, 1, 3), (1, 0, 2)), 2),
            (((0, 1, 3), (1, 0, 2)), 0),
            (((0, 1, 3), (1, 0, 2)), -4),
            (((1, 0, 2), (0, 1, 3)), 4),
            (((0, 1, 3), (2, 1, 1), (1, 0, 2)), 4),
            (((0, 1, 3), (0, 0, 2)), 4),
            (((0, 1, 3), (0, 1, 3)), 4),
            ((), 2),
            ((), -1),
            ((), HUGE),
        ):
            self.assertIs(is_plain(row), False, row)


class IsSo(unittest.TestCase):
    def test_weights_of_sides_that_are_so(self):
        row = (((0, 1, 3), (1, 0, 2), (2, 1, 1)), 3)
        so = [way for way in all_ways(3) if is_so(row, way)]
        self.assertEqual(so, [[0, 0, 1], [1, 0, 0], [1, 0, 1], [1, 1, 0], [1, 1, 1]])

    def test_tells_true_or_false(self):
        self.assertIs(is_so((((0, 1, 1),), 1), [1]), True)
        self.assertIs(is_so((((0, 1, 1),), 1), [0]), False)
        self.assertIs(is_so((((0, 1, 1),), 2), [1]), False)

    def test_without_terms(self):
        for way in all_ways(2):
            self.assertIs(is_so(ALWAYS, way), True)
            self.assertIs(is_so(BAR, way), False)

    def test_great_numbers(self):
        row = (((0, 1, HUGE), (1, 0, HUGE)), 2 * HUGE)
        self.assertEqual([is_so(row, way) for way in all_ways(2)], [False, False, True, False])


class Added(unittest.TestCase):
    ONE = (((0, 1, 2), (1, 0, 1)), 2)
    OTHER = (((0, 0, 1), (1, 0, 1), (2, 1, 3)), 3)

    def test_ordinary(self):
        self.assertEqual(added(self.ONE, self.OTHER), (((0, 1, 1), (1, 0, 2), (2, 1, 3)), 4))
        self.assertEqual(added(self.ONE, self.OTHER, 2), (((0, 1, 3), (1, 0, 3), (2, 1, 3)), 6))
        self.assertEqual(added(self.ONE, self.OTHER, more=2), (((1, 0, 3), (2, 1, 6)), 6))
        self.assertEqual(added(self.ONE, self.OTHER, 1, 3), (((0, 0, 1), (1, 0, 4), (2, 1, 9)), 9))
        self.assertEqual(added(self.ONE, self.OTHER, times=3, more=2), (((0, 1, 4), (1, 0, 5), (2, 1, 6)), 10))

    def test_down_to_the_bar(self):
        self.assertEqual(added((((0, 1, 1),), 1), (((0, 0, 1),), 1)), BAR)
        self.assertEqual(added(BAR, ALWAYS, 5, 2), BAR)
        self.assertEqual(added(ALWAYS, ALWAYS, 5, 2), ALWAYS)

    def test_great_numbers(self):
        row = (((0, 1, HUGE),), HUGE)
        self.assertEqual(added(row, row, HUGE, HUGE), (((0, 1, 2 * HUGE ** 2),), 2 * HUGE ** 2))

    def test_what_is_made_is_so_where_both_are(self):
        rows = plain_rows(25, 3) + loose_rows(25, 3)
        for one, other in product(rows, repeat=2):
            for times, more in ((1, 1), (2, 3), (7, 1)):
                made = added(one, other, times, more)
                self.assertTrue(is_plain(made), made)
                terms = [(m, w, k * times) for m, w, k in one[0]] + [(m, w, k * more) for m, w, k in other[0]]
                least = one[1] * times + other[1] * more
                for way in all_ways(3):
                    self.assertEqual(is_so(made, way), comes_to(terms, way) >= least)
                    if is_so(one, way) and is_so(other, way):
                        self.assertTrue(is_so(made, way))

    def test_below_1(self):
        for times, more in ((0, 1), (1, 0), (-1, 1), (1, -HUGE), (0, 0)):
            with self.assertRaises(BadTimes):
                added(self.ONE, self.OTHER, times, more)
        with self.assertRaises(BadTimes):
            added(ALWAYS, BAR, times=0)
        with self.assertRaises(BadTimes):
            added(ALWAYS, BAR, more=0)


class Divided(unittest.TestCase):
    def test_ordinary(self):
        row = (((0, 1, 5), (1, 0, 4), (2, 1, 1)), 7)
        self.assertEqual(divided(row), (((0, 1, 3), (1, 0, 2), (2, 1, 1)), 4))
        self.assertEqual(divided(row, 1), row)
        self.assertEqual(divided(row, 2), divided(row))
        self.assertEqual(divided(row, 3), (((0, 1, 2), (1, 0, 2), (2, 1, 1)), 3))
        self.assertEqual(divided(row, by=7), (((0, 1, 1), (1, 0, 1), (2, 1, 1)), 1))
        self.assertEqual(divided(row, HUGE), (((0, 1, 1), (1, 0, 1), (2, 1, 1)), 1))

    def test_great_numbers_are_exact(self):
        row = (((0, 1, HUGE),), HUGE + 1)
        self.assertEqual(divided(row, HUGE), (((0, 1, 1),), 2))
        self.assertEqual(divided((((0, 1, 10 ** 40 + 1),), 10 ** 40 + 1), 10), (((0, 1, 10 ** 39 + 1),), 10 ** 39 + 1))

    def test_without_terms(self):
        for by in (1, 2, HUGE):
            self.assertEqual(divided(BAR, by), BAR)
            self.assertEqual(divided(ALWAYS, by), ALWAYS)

    def test_what_is_made_is_so_where_the_row_is(self):
        for row in plain_rows(200, 4, span=9) + loose_rows(100, 4):
            for by in (1, 2, 3, 5, 100):
                made = divided(row, by)
                self.assertTrue(is_plain(made), made)
                for way in all_ways(4):
                    self.assertTrue(is_so(made, way) or not is_so(row, way), (row, by, way))

    def test_below_1(self):
        for by in (0, -1, -HUGE):
            for row in (ROW, ALWAYS, BAR):
                with self.assertRaises(BadTimes):
                    divided(row, by)


class Weakened(unittest.TestCase):
    def test_at_each_mark(self):
        self.assertEqual(weakened(ROW, 0), (((1, 0, 1), (4, 1, 1)), 1))
        self.assertEqual(weakened(ROW, 1), (((0, 1, 2), (4, 1, 1)), 2))
        self.assertEqual(weakened(ROW, 4), (((0, 1, 3), (1, 0, 2)), 3))

    def test_down_to_rows_without_terms(self):
        self.assertEqual(weakened((((2, 1, 1),), 1), 2), ALWAYS)
        self.assertEqual(weakened((((2, 1, 1), (3, 1, 4)), 4), 3), ALWAYS)
        self.assertEqual(weakened((((2, 1, 1),), 3), 2), BAR)

    def test_what_is_made_is_so_where_the_row_is(self):
        for row in plain_rows(200, 4) + loose_rows(100, 4):
            for mark in [term[0] for term in row[0]]:
                made = weakened(row, mark)
                self.assertTrue(is_plain(made), made)
                self.assertNotIn(mark, [term[0] for term in made[0]])
                for way in all_ways(4):
                    self.assertTrue(is_so(made, way) or not is_so(row, way), (row, mark, way))

    def test_a_mark_that_is_not_there(self):
        for mark in (2, 3, 5, 9999, -1):
            with self.assertRaises(NoMark):
                weakened(ROW, mark)
        for row in (ALWAYS, BAR):
            with self.assertRaises(NoMark):
                weakened(row, 0)


class Turned(unittest.TestCase):
    def test_ordinary(self):
        self.assertEqual(turned(ROW), (((0, 0, 3), (1, 1, 2), (4, 0, 1)), 3))
        self.assertEqual(turned((((0, 1, 1), (1, 1, 1)), 2)), (((0, 0, 1), (1, 0, 1)), 1))
        self.assertEqual(turned((((0, 1, HUGE),), HUGE)), (((0, 0, 1),), 1))

    def test_rows_that_are_always_or_never_so(self):
        self.assertEqual(turned(ALWAYS), BAR)
        self.assertEqual(turned(BAR), ALWAYS)
        self.assertEqual(turned((((0, 1, 1),), 2)), ALWAYS)

    def test_is_so_where_the_row_is_not(self):
        for row in plain_rows(300, 4) + loose_rows(100, 4):
            made = turned(row)
            self.assertTrue(is_plain(made), made)
            for way in all_ways(4):
                self.assertEqual(is_so(made, way), not is_so(row, way), (row, way))


if __name__ == "__main__":
    unittest.main()
