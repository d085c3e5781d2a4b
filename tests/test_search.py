"""Points [11] and [18], what it says of learnt rows: searches run to their end, in parts and beside their twins."""

import unittest

from tests.helper import (
    ALWAYS, BAR, HUGE, all_ways, clause_of, halved, mixed_rows, numbered_from_1, pigeons, side_lists, so_ways,
)
from weighrow.errors import BadMany, BadTurns, NoWay
from weighrow.logs import Log
from weighrow.rows import is_plain, is_so
from weighrow.search import Search, answer
from weighrow.spread import slack

NEVER_SO = (((0, 1, 1), (1, 0, 1)), 3)
# Enough marks, and weights of so many sums, that it goes back often: the one ends with no, the other with yes.
LONG = halved([123, 229, 331, 437, 541, 643, 747, 854, 1001])
LONG_YES = halved([258, 780, 144, 542, 725, 638, 650, 367, 699])


def to_end(search):
    """The count of turns that it took."""
    turns = 0
    while search.word() == "halted":
        search.run()
        turns += 1
        assert turns < 5000, "it does not end"
    return turns


def told_or_no_way(call):
    try:
        return call()
    except NoWay:
        return NoWay


def standing(search):
    """All that a search tells."""
    return (
        search.word(), told_or_no_way(search.way), told_or_no_way(search.clash), told_or_no_way(search.log),
        search.learnt(),
    )


class Ends(unittest.TestCase):
    def check_end(self, many, rows, wishes, search):
        ways = so_ways(many, rows, wishes)
        self.assertEqual(search.word(), "yes" if ways else "no", (rows, wishes))
        if ways:
            self.assertIn(search.way(), ways)
            for call in (search.clash, search.log):
                self.assertRaises(NoWay, call)
        else:
            self.assertRaises(NoWay, search.way)
            self.check_log(rows, wishes, search.clash(), search.log())

    def check_log(self, rows, wishes, clash, log):
        self.assertIsInstance(log, Log)
        self.assertIs(type(clash), list)
        self.assertEqual(clash, sorted(clash))
        self.assertTrue(set(clash) <= set(wishes), (clash, wishes))
        made = log.rows(numbered_from_1(rows))
        self.assertLess(slack(made[-1], clash), 0)
        self.assertEqual(clash == [], made[-1] == BAR)
        self.assertEqual(clash == [], log.bars(numbered_from_1(rows)))

    def check(self, many, rows, wishes=()):
        search = Search(many, rows, list(wishes))
        to_end(search)
        self.check_end(many, rows, wishes, search)
        self.check_learnt(many, rows, search)
        if search.word() == "yes":
            self.assertEqual(answer(many, rows, list(wishes)), ("yes", search.way()))
        else:
            self.assertEqual(answer(many, rows, list(wishes)), ("no", search.clash(), search.log()))
        return search

    def check_learnt(self, many, rows, search):
        # A row that stands tells what it tells ahead of a choice, so none is learnt that stands already.
        learnt = [row for row, numbers in search.learnt()]
        self.assertEqual(len(set(learnt + rows)), len(learnt) + len(set(rows)))
        for row, numbers in search.learnt():
            self.assertTrue(is_plain(row), row)
            self.assertIs(type(numbers), tuple)
            self.assertEqual(list(numbers), sorted(set(numbers)))
            self.assertTrue(set(numbers) <= set(range(1, len(rows) + 1)), numbers)
            for way in so_ways(many, [rows[number - 1] for number in numbers]):
                self.assertTrue(is_so(row, way), (row, numbers, way))

    def test_all_wishes_of_a_few_marks(self):
        words = set()
        for many in (1, 2, 3):
            for seed in range(40):
                rows = mixed_rows(seed, many)
                for wishes in side_lists(many):
                    words.add(self.check(many, rows, wishes).word())
        self.assertEqual(words, {"yes", "no"})

    def test_more_marks(self):
        for seed in range(60):
            rows = mixed_rows(seed, 5)
            for wishes in side_lists(5)[seed % 7::23]:
                self.check(5, rows, wishes)

    def test_wishes_in_any_order(self):
        rows = [clause_of((0, 0), (1, 1)), clause_of((1, 0), (2, 1))]
        clash = self.check(4, rows, [(3, 1), (2, 0), (0, 1)]).clash()
        self.assertEqual(clash, [(0, 1), (2, 0)])

    def test_no_rows(self):
        for many in (1, 2, 12):
            self.check(many, [])
            self.check(many, [ALWAYS])
        self.assertEqual(answer(3, [], [(0, 1), (1, 0), (2, 1)]), ("yes", [1, 0, 1]))
        self.assertEqual(Search(2, []).learnt(), [])

    def test_no_wishes(self):
        rows = [clause_of((0, 1))]
        for wishes in (None, []):
            self.assertEqual(answer(1, rows, wishes), ("yes", [1]))
        self.assertEqual(answer(1, rows), ("yes", [1]))

    def test_the_bar_among_the_rows(self):
        for wishes in side_lists(2):
            for rows in ([BAR], [ALWAYS, BAR], [clause_of((0, 1), (1, 1)), BAR]):
                self.assertEqual(self.check(2, rows, wishes).word(), "no")
            self.assertEqual(answer(2, [BAR], wishes), ("no", [], Log([("row", 1)])))

    def test_rows_that_can_never_be_so(self):
        for wishes in side_lists(2):
            self.check(2, [NEVER_SO], wishes)
            self.check(2, [clause_of((0, 1)), NEVER_SO], wishes)
            self.check(2, [(((0, 1, HUGE),), HUGE + 1)], wishes)
        self.assertEqual(answer(2, [NEVER_SO])[1], [])

    def test_wishes_on_every_mark(self):
        for seed in range(30):
            rows = mixed_rows(seed, 4)
            for way in all_ways(4):
                self.check(4, rows, list(enumerate(way)))

    def test_wishes_that_clash_among_rows(self):
        chain = [clause_of((mark, 0), (mark + 1, 1)) for mark in range(11)]
        search = self.check(12, chain, [(11, 0), (0, 1)])
        self.assertEqual(search.clash(), [(0, 1), (11, 0)])
        self.check(12, chain, [(0, 1)])
        self.check(12, chain, [(5, 0), (6, 1)])
        self.check(12, pigeons(3, 4, True), [(0, 1), (4, 1)])
        self.check(12, pigeons(3, 4, False), [(0, 1), (4, 1), (9, 1)])

    def test_a_wish_against_a_row(self):
        self.check(1, [clause_of((0, 1))], [(0, 0)])
        self.check(2, [(((0, 1, HUGE), (1, 0, HUGE)), HUGE + 1)], [(0, 0)])

    def test_pigeons_and_holes(self):
        for birds, holes in ((3, 2), (4, 3), (6, 2), (12, 1), (3, 4), (3, 3)):
            for by_pairs in (True, False):
                search = self.check(birds * holes, pigeons(birds, holes, by_pairs))
                self.assertEqual(search.word(), "no" if birds > holes else "yes")

    def test_long_ones(self):
        self.assertEqual(self.check(9, LONG).word(), "no")
        self.assertEqual(self.check(9, LONG_YES).word(), "yes")
        self.assertEqual(self.check(12, halved([2 * k + 1000 for k in range(11)] + [7])).word(), "no")

    def test_each_way_barred_by_a_clause_of_its_own(self):
        rows = [clause_of(*((mark, 1 - want) for mark, want in enumerate(way))) for way in all_ways(5)]
        self.assertEqual(self.check(5, rows).word(), "no")
        self.assertEqual(self.check(5, rows[:13] + rows[14:]).way(), all_ways(5)[13])

    def test_great_weights(self):
        for weights in ([HUGE, HUGE + 2, 3 * HUGE, 5, 7], [10 ** 29 + k * k * 10 ** 28 for k in range(7)]):
            self.check(7, halved(weights))
            self.check(7, halved(weights), [(0, 1), (2, 0)])

    def test_numbers_that_are_far_too_great(self):
        for k in range(6):
            weights = [10 ** (90 + k) + 7 ** (100 + at) for at in range(7)]
            search = self.check(7, halved(weights))
            # Learnt rows may be longer than the rows are, but not ever longer.
            self.assertTrue(all(row[1] < 10 ** 300 for row, numbers in search.learnt()))

    def test_a_row_twice(self):
        rows = pigeons(3, 2, True)
        self.check(6, rows + rows)


class Learnt(unittest.TestCase):
    def test_the_eldest_first_and_none_let_go(self):
        for many, rows in ((9, LONG), (9, LONG_YES), (12, pigeons(4, 3, True))):
            search = Search(many, rows)
            before = []
            while search.word() == "halted":
                search.run()
                now = search.learnt()
                self.assertEqual(now[:len(before)], before)
                self.assertLessEqual(len(now), len(before) + 1)
                before = now
            self.assertGreater(len(before), 1)

    def test_each_comes_by_a_log_from_the_rows_on_which_it_leans(self):
        for many, rows in ((9, LONG), (9, LONG_YES), (12, pigeons(4, 3, True)), (12, pigeons(4, 3, False))):
            search = Search(many, rows)
            to_end(search)
            given = numbered_from_1(rows)
            logs = [search.hunt.workings.log_to([at]) for at in search.hunt.gained]
            self.assertEqual(
                [(log.rows(given)[-1], log.leans()[-1]) for log in logs], search.learnt(),
            )
            for log in logs:
                numbers = log.leans()[-1]
                self.assertTrue(log.rows([pair for pair in given if pair[0] in numbers]))

    def test_numbers_leave_out_rows_that_are_not_needed(self):
        rows = [clause_of((10, 1), (11, 1))] + pigeons(3, 2, True)
        search = Search(12, rows)
        to_end(search)
        self.assertNotEqual(search.learnt(), [])
        self.assertTrue(all(1 not in numbers for row, numbers in search.learnt()))


class InParts(unittest.TestCase):
    CASES = [(9, LONG, None), (9, LONG_YES, None), (12, pigeons(4, 3, True), [(0, 1)]), (3, [], None), (2, [BAR], None)]

    def test_the_same_as_in_one(self):
        for many, rows, wishes in self.CASES:
            total = to_end(Search(many, rows, wishes))
            for turns in range(1, min(total + 3, 60)):
                whole = Search(many, rows, wishes)
                whole.run(turns)
                for part in (1, 2, 3, 7):
                    parts = Search(many, rows, wishes)
                    left = turns
                    while left > 0:
                        word = parts.run(min(part, left))
                        self.assertEqual(word, parts.word())
                        left -= part
                    self.assertEqual(standing(parts), standing(whole), (part, turns))

    def test_to_the_end_by_parts_of_any_length(self):
        for many, rows, wishes in self.CASES:
            due = None
            for part in (1, 2, 5, 13, 100, 999, 1000):
                search = Search(many, rows, wishes)
                while search.run(part) == "halted":
                    pass
                due = due or standing(search)
                self.assertEqual(standing(search), due)

    def test_halted_ahead_of_the_end(self):
        for many, rows, wishes in self.CASES:
            search = Search(many, rows, wishes)
            self.assertEqual(standing(search), ("halted", NoWay, NoWay, NoWay, []))
            total = to_end(search)
            for turns in range(1, total, 1 + total // 30):
                search = Search(many, rows, wishes)
                self.assertEqual(search.run(turns), "halted")
                self.assertEqual(standing(search)[:4], ("halted", NoWay, NoWay, NoWay))

    def test_one_turn_where_none_is_told(self):
        one, other = Search(9, LONG), Search(9, LONG)
        for step in range(40):
            self.assertEqual(one.run(), other.run(1))
            self.assertEqual(standing(one), standing(other))

    def test_it_takes_more_than_one_turn(self):
        self.assertEqual(Search(9, LONG).run(), "halted")
        self.assertEqual(Search(9, LONG).run(2), "halted")

    def test_behind_the_end(self):
        for many, rows, wishes in self.CASES:
            search = Search(many, rows, wishes)
            to_end(search)
            due = standing(search)
            for turns in (1, 2, 1000):
                self.assertEqual(search.run(turns), due[0])
                self.assertEqual(standing(search), due)

    def test_the_same_again(self):
        for many, rows, wishes in self.CASES:
            one, other = Search(many, rows, wishes), Search(many, list(rows), wishes and list(wishes))
            to_end(one)
            to_end(other)
            self.assertEqual(standing(one), standing(other))
            self.assertEqual(answer(many, rows, wishes), answer(many, rows, wishes))

    def test_asking_changes_nothing(self):
        asked, other = Search(9, LONG), Search(9, LONG)
        while asked.word() == "halted":
            standing(asked)
            asked.run(3)
            other.run(3)
        self.assertEqual(standing(asked), standing(other))


class Twins(unittest.TestCase):
    def test_beside_the_first(self):
        for many, rows, wishes in InParts.CASES:
            due = Search(many, rows, wishes)
            total = to_end(due)
            for turns in range(0, total + 2, 1 + total // 25):
                first = Search(many, rows, wishes)
                for step in range(turns):
                    first.run()
                before = standing(first)
                twin = first.twin()
                self.assertIsInstance(twin, Search)
                self.assertEqual(standing(twin), before)
                to_end(twin)
                self.assertEqual(standing(twin), standing(due))
                self.assertEqual(standing(first), before)
                to_end(first)
                self.assertEqual(standing(first), standing(due))

    def test_the_first_goes_on_and_the_twin_stays(self):
        first = Search(9, LONG)
        first.run(50)
        twin = first.twin()
        before = standing(twin)
        self.assertNotEqual(before[4], [])
        to_end(first)
        self.assertEqual(standing(twin), before)
        self.assertEqual(standing(twin.twin()), before)

    def test_turn_by_turn(self):
        first = Search(9, LONG_YES)
        first.run(5)
        twin = first.twin()
        while first.word() == "halted":
            self.assertEqual(twin.run(), first.run())
            self.assertEqual(standing(twin), standing(first))

    def test_searches_have_nothing_to_do_with_one_another(self):
        one, other = Search(9, LONG), Search(9, LONG)
        to_end(one)
        self.assertEqual(standing(other), standing(Search(9, LONG)))


class Refused(unittest.TestCase):
    def test_turns(self):
        for many, rows in ((9, LONG), (1, [BAR]), (1, [])):
            search = Search(many, rows)
            while True:
                before = standing(search)
                for turns in (0, -1, 1001, 1002, HUGE, -HUGE):
                    self.assertRaises(BadTurns, search.run, turns)
                    self.assertRaises(BadTurns, search.run, turns=turns)
                self.assertEqual(standing(search), before)
                if search.word() != "halted":
                    break
                search.run(200)

    def test_turns_at_the_bounds(self):
        self.assertEqual(Search(9, LONG).run(1), "halted")
        self.assertEqual(Search(1, []).run(1000), "yes")

    def test_many(self):
        for many in (0, -1, 13, HUGE, -HUGE):
            self.assertRaises(BadMany, Search, many, [])
            self.assertRaises(BadMany, Search, many, [BAR], [(0, 1)])
            self.assertRaises(BadMany, answer, many, [BAR])
        for many in (1, 12):
            self.assertEqual(len(answer(many, [])[1]), many)


if __name__ == "__main__":
    unittest.main()
