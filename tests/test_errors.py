import unittest

from notefall import errors

NAMES = [
    "NoAction", "NoDeed", "NoNote", "NoKey", "NoStretch", "NoRule", "NoMark", "NoMany", "NoRoom", "Busy", "NoImage",
    "NoPage", "NoPlace", "NoCut", "NotBare", "NoShelf",
]


def made(name):
    refusal = getattr(errors, name)
    return refusal(3) if name == "NoImage" else refusal("some words")


class Refusals(unittest.TestCase):
    def test_fall_error_stands_straight_under_value_error(self):
        self.assertEqual(errors.FallError.__bases__, (ValueError,))

    def test_there_are_sixteen(self):
        self.assertEqual(len(set(NAMES)), 16)

    def test_each_stands_straight_under_fall_error(self):
        for name in NAMES:
            with self.subTest(name):
                self.assertEqual(getattr(errors, name).__bases__, (errors.FallError,))
                self.assertEqual(getattr(errors, name).__name__, name)

    def test_none_stands_under_another(self):
        for one in NAMES:
            for other in NAMES:
                with self.subTest(one=one, other=other):
                    self.assertEqual(issubclass(getattr(errors, one), getattr(errors, other)), one == other)

    def test_no_other_refusal_is_there(self):
        there = [name for name in vars(errors) if not name.startswith("__")]
        self.assertEqual(sorted(there), sorted(NAMES + ["FallError"]))

    def test_each_is_raised_and_taken_as_any_refusal(self):
        for name in NAMES:
            for base in (getattr(errors, name), errors.FallError, ValueError):
                with self.subTest(name=name, base=base), self.assertRaises(base):
                    raise made(name)

    def test_each_can_be_made_without_words_but_no_image(self):
        for name in NAMES:
            if name != "NoImage":
                with self.subTest(name):
                    self.assertIsInstance(getattr(errors, name)(), errors.FallError)


class TheFieldRoom(unittest.TestCase):
    def test_it_is_what_the_refusal_was_made_with(self):
        for room in (-1, 0, 1, 7, 150, 10 ** 59):
            with self.subTest(room):
                self.assertEqual(errors.NoImage(room).room, room)
                self.assertEqual(errors.NoImage(room=room).room, room)

    def test_it_is_there_where_the_refusal_is_taken(self):
        with self.assertRaises(errors.NoImage) as taken:
            raise errors.NoImage(-1)
        self.assertEqual(taken.exception.room, -1)

    def test_each_refusal_has_its_own(self):
        one, other = errors.NoImage(1), errors.NoImage(2)
        self.assertEqual((one.room, other.room), (1, 2))

    def test_no_other_refusal_has_it(self):
        for name in NAMES:
            with self.subTest(name):
                self.assertEqual(hasattr(made(name), "room"), name == "NoImage")


if __name__ == "__main__":
    unittest.main()
