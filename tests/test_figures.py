import unittest

from notefall.figures import figures_of, read_figures
from things import OTHERS

NUMBERS = [
    0, 1, -1, 7, 9, -9, 10, -10, 100, 907, -907, 10 ** 12, 10 ** 30, -10 ** 30, 10 ** 59, -10 ** 59,
    10 ** 60 - 1, 1 - 10 ** 60, int("1234567890" * 6), -int("1234567890" * 6),
]

NOT_READ = [
    "", "-", "--", "-0", "00", "000", "07", "-07", "-00", "+7", "+0", "+", "--7", "-+7", "+-7", "7-", "1-2",
    "1" * 61, "-" + "1" * 61, "1" + "0" * 60, "0" * 60, "0" * 61, "0" * 59 + "1", "1" * 5000,
    " 7", "7 ", "\n7", "7\n", "\t7", "7\t", "7\r", " -7", "- 7", "-7 ", "-\n7", "1 0", "1\n0", " ", "\n",
    "7a", "a7", "1e5", "1a2", "0x7", "0b1", "0o7", "1_0", "_1", "1_", "1.0", "1.", "1,0", "1/2", "x", "None", "True",
    "\u00b2", "\u0663", "1\u0663", "\uff17", "\u2212" + "7", "\u00bd", "7\u00a0", "7\x00",
]


class Figures(unittest.TestCase):
    def test_written(self):
        for number, text in [(0, "0"), (1, "1"), (-1, "-1"), (907, "907"), (-10, "-10"), (10 ** 5, "100000")]:
            with self.subTest(number):
                self.assertEqual(figures_of(number), text)
        self.assertEqual(figures_of(10 ** 60 - 1), "9" * 60)
        self.assertEqual(figures_of(1 - 10 ** 60), "-" + "9" * 60)
        self.assertEqual(figures_of(10 ** 59), "1" + "0" * 59)

    def test_written_and_read_back(self):
        for number in NUMBERS + list(range(-120, 121)):
            with self.subTest(number):
                text = figures_of(number)
                self.assertIsInstance(text, str)
                self.assertEqual(read_figures(text), number)
                self.assertIsInstance(read_figures(text), int)

    def test_read(self):
        for text, number in [("0", 0), ("1", 1), ("-1", -1), ("70", 70), ("-70", -70), ("9" * 60, 10 ** 60 - 1)]:
            with self.subTest(text):
                self.assertEqual(read_figures(text), number)
                self.assertNotIsInstance(read_figures(text), bool)

    def test_not_read(self):
        for text in NOT_READ:
            with self.subTest(text):
                self.assertIsNone(read_figures(text))

    def test_a_text_is_read_just_where_its_number_is_written_so(self):
        signs = "-0123 +a"
        texts = [one + two + three for one in signs for two in signs for three in signs]
        for text in texts + [text[1:] for text in texts] + [text[2:] for text in texts]:
            number = read_figures(text)
            with self.subTest(text):
                if number is None:
                    self.assertNotIn(text, [figures_of(number) for number in range(-99, 1000)])
                else:
                    self.assertEqual(figures_of(number), text)

    def test_no_text(self):
        for at, thing in enumerate(OTHERS):
            if not isinstance(thing, str):
                with self.subTest(at=at):
                    self.assertIsNone(read_figures(thing))
        for thing in (0, 7, -7, b"7", b"-7", ["7"], ("7",), {"7": 7}, bytearray(b"7"), 10 ** 60):
            with self.subTest(thing):
                self.assertIsNone(read_figures(thing))


if __name__ == "__main__":
    unittest.main()
