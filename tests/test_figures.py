import unittest

from weighrow.figures import figures, is_number


class Figures(unittest.TestCase):
    def test_as_python_writes_them(self):
        for number in (0, 7, 10, -1, -340, 10 ** 30, 10 ** 59, 10 ** 60 - 1, 10 ** 60, -(10 ** 60), 10 ** 120 + 5):
            self.assertEqual(figures(number), str(number))

    def test_of_more_figures_than_python_writes_at_once(self):
        self.assertEqual(figures(10 ** 5000 + 42), "1" + "0" * 4998 + "42")
        self.assertEqual(figures(-(10 ** 5000)), "-1" + "0" * 5000)

    def test_numbers(self):
        for text in ("0", "7", "10", "999999999", "100000000"):
            self.assertTrue(is_number(text), text)
        self.assertTrue(is_number("1" * 60, most=60))

    def test_no_numbers(self):
        for text in ("", "00", "07", "-1", "+1", "1 ", " 1", "1_0", "1.0", "1e3", "1000000000", "x", "\u0663", "\u00b2"):
            self.assertFalse(is_number(text), text)
        self.assertFalse(is_number("1" * 61, most=60))


if __name__ == "__main__":
    unittest.main()
