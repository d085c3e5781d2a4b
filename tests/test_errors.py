import unittest

from weighrow import errors
from weighrow.errors import BadLine, BadText, Missing, RowError

UNDER_ROW_ERROR = {
    "BadTimes": "bad times", "BadMany": "bad many", "BadTerm": "bad term", "BadWant": "bad want",
    "BadTurns": "bad turns", "TooGreat": "too great", "Full": "full", "Wished": "wished",
    "BadLine": "bad line", "BadText": "bad text",
}
UNDER_MISSING = {
    "NoMark": "no mark", "NoRow": "no row", "NoWish": "no wish", "NoLine": "no line",
    "NoWay": "no way", "NothingLeft": "nothing left",
}
WITH_PLACE = ("BadLine", "BadText")


def made(name):
    kind = getattr(errors, name)
    return kind(3) if name in WITH_PLACE else kind()


class Refusals(unittest.TestCase):
    def test_the_two_roots(self):
        self.assertEqual(RowError.__bases__, (ValueError,))
        self.assertEqual(Missing.__bases__, (LookupError,))

    def test_each_stands_straight_under_its_root(self):
        for names, root in ((UNDER_ROW_ERROR, RowError), (UNDER_MISSING, Missing)):
            for name in names:
                self.assertEqual(getattr(errors, name).__bases__, (root,), name)

    def test_there_are_sixteen(self):
        self.assertEqual(len(UNDER_ROW_ERROR) + len(UNDER_MISSING), 16)

    def test_each_is_called_by_its_word(self):
        for name, word in {**UNDER_ROW_ERROR, **UNDER_MISSING}.items():
            error = made(name)
            self.assertEqual(error.called, word)
            self.assertIn("called", vars(error), name)

    def test_places(self):
        self.assertEqual(BadLine(7).at, 7)
        self.assertEqual(BadText(0).row, 0)


if __name__ == "__main__":
    unittest.main()
