import unittest

from notefall.errors import NoKey, NoNote, NoStretch
from notefall.notes import is_note, part, shares, touches
from notefall.wholes import END
from things import OTHERS

SIXTY = 10 ** 60 - 1
GONE = ("gone",)
RAISE = (("plus", 3), GONE)
PUT = (("is", 3), ("is", 3))

NO_NOTES = [
    (), (1, 0, 5), (1, 0, 5, RAISE, 1), [1, 0, 5, RAISE], (0, 0, 5, RAISE), (1, 5, 5, RAISE), (1, 0, 5, PUT),
    (1, 0, 5, None), (True, 0, 5, RAISE), "note", None, 7,
]
NO_KEYS = [-1, END, SIXTY, -SIXTY] + OTHERS
NO_STRETCHES = [(0, 0), (5, 4), (-1, 5), (0, END + 1), (True, 5), (0, True), (None, 5), (0, None), ("0", 5), (0, (5,))]


def note(low, high, number=7, action=RAISE):
    return (number, low, high, action)


class IsNote(unittest.TestCase):
    def each_is(self, told, things):
        for at, thing in enumerate(things):
            with self.subTest(at=at):
                self.assertIs(is_note(thing), told)

    def test_notes(self):
        self.each_is(True, [note(0, 5), note(0, END), note(0, 1), note(END - 1, END), note(5, 6, 1, PUT)])

    def test_numbers(self):
        self.each_is(True, [note(0, 5, number) for number in (1, 2, 300, SIXTY)])
        self.each_is(False, [note(0, 5, number) for number in (0, -1, -SIXTY)])

    def test_stretches(self):
        self.each_is(True, [note(END - 2, END), note(1, END - 1)])
        self.each_is(False, [note(-1, 5), note(0, END + 1), note(END, END + 1), note(5, 5), note(6, 5), note(0, 0)])

    def test_an_action_that_gives_none_a_value(self):
        for action in (PUT, (("plus", 1), ("is", 1)), (GONE, ("is", 0))):
            self.each_is(True, [note(5, 6, 1, action), note(0, 1, 1, action), note(END - 1, END, 1, action)])
            self.each_is(False, [note(5, 7, 1, action), note(0, END, 1, action), note(END - 2, END, 1, action)])

    def test_an_action_that_gives_none_no_value(self):
        for action in (RAISE, (("is", 1), GONE), (GONE, GONE), (("plus", 0), GONE)):
            self.each_is(True, [note(5, 6, 1, action), note(5, 7, 1, action), note(0, END, 1, action)])

    def test_other_things_in_each_place(self):
        for place in range(4):
            things = []
            for thing in OTHERS:
                row = list(note(5, 6))
                row[place] = thing
                things.append(tuple(row))
            self.each_is(False, things)

    def test_no_actions(self):
        for action in ((GONE,), (GONE, ("plus", 1)), [GONE, GONE], (("is", True), GONE), (("is", 1), GONE, GONE), 5):
            self.each_is(False, [note(5, 6, 1, action), note(5, 7, 1, action)])

    def test_a_thing_more_or_fewer(self):
        whole = note(5, 6)
        self.each_is(False, [whole[:many] for many in range(4)] + [whole[1:], whole + (1,), whole + (None,), (whole,)])

    def test_of_anything(self):
        self.each_is(False, NO_NOTES + OTHERS + [list(note(5, 6)), "four", b"four", range(4)])

    def test_handed_in_by_name(self):
        self.assertIs(is_note(thing=note(0, 5)), True)
        self.assertIs(is_note(thing=5), False)


class Touches(unittest.TestCase):
    def test_at_each_end_and_one_beyond(self):
        for key, told in [(4, False), (5, True), (6, True), (8, True), (9, False), (0, False), (END - 1, False)]:
            with self.subTest(key):
                self.assertIs(touches(note(5, 9), key), told)

    def test_one_key(self):
        for key, told in [(4, False), (5, True), (6, False)]:
            with self.subTest(key):
                self.assertIs(touches(note(5, 6, 1, PUT), key), told)

    def test_the_ends_of_all_keys(self):
        self.assertIs(touches(note(0, END), 0), True)
        self.assertIs(touches(note(0, END), END - 1), True)
        self.assertIs(touches(note(1, END - 1), 0), False)
        self.assertIs(touches(note(1, END - 1), END - 1), False)

    def test_refused(self):
        for at, thing in enumerate(NO_NOTES + OTHERS):
            for key in (5, -1, None):
                with self.subTest(at=at, key=key), self.assertRaises(NoNote):
                    touches(thing, key)
        for at, key in enumerate(NO_KEYS):
            with self.subTest(at=at), self.assertRaises(NoKey):
                touches(note(0, END), key)

    def test_handed_in_by_name(self):
        self.assertIs(touches(key=5, note=note(5, 9)), True)


class Shares(unittest.TestCase):
    ROWS = [
        ((0, 5), (7, 9), False), ((0, 5), (6, 9), False), ((0, 5), (5, 9), False), ((0, 5), (4, 9), True),
        ((0, 9), (3, 5), True), ((0, 9), (0, 5), True), ((0, 9), (5, 9), True), ((3, 7), (3, 7), True),
        ((3, 4), (3, 4), True), ((3, 4), (4, 5), False), ((3, 4), (0, END), True), ((0, 1), (END - 1, END), False),
        ((0, END), (END - 1, END), True), ((0, END), (0, 1), True),
    ]

    def test_both_ways(self):
        for one, other, told in self.ROWS:
            with self.subTest(one=one, other=other):
                self.assertIs(shares(note(*one), note(*other)), told)
                self.assertIs(shares(note(*other), note(*one)), told)

    def test_just_where_a_key_is_touched_by_both(self):
        spans = [(low, high) for low in range(5) for high in range(low + 1, 6)]
        for one in spans:
            for other in spans:
                both = any(touches(note(*one), key) and touches(note(*other), key) for key in range(6))
                with self.subTest(one=one, other=other):
                    self.assertIs(shares(note(*one), note(*other)), both)

    def test_numbers_and_actions_do_not_count(self):
        self.assertIs(shares(note(5, 6, 1, PUT), note(5, 6, 9, RAISE)), True)
        self.assertIs(shares(note(5, 6, 3, PUT), note(6, 7, 3, PUT)), False)

    def test_refused(self):
        for at, thing in enumerate(NO_NOTES + OTHERS):
            for pair in ((thing, note(0, 5)), (note(0, 5), thing), (thing, thing), (thing, None)):
                with self.subTest(at=at), self.assertRaises(NoNote):
                    shares(*pair)

    def test_handed_in_by_name(self):
        self.assertIs(shares(other=note(0, 5), note=note(4, 9)), True)


class Part(unittest.TestCase):
    def test_parts(self):
        whole = note(10, 20)
        rows = [
            ((10, 20), (10, 20)), ((0, END), (10, 20)), ((9, 21), (10, 20)), ((12, 15), (12, 15)), ((12, 13), (12, 13)),
            ((0, 11), (10, 11)), ((19, END), (19, 20)), ((0, 15), (10, 15)), ((15, END), (15, 20)), ((10, 11), (10, 11)),
            ((19, 20), (19, 20)),
        ]
        for stretch, told in rows:
            with self.subTest(stretch):
                self.assertEqual(part(whole, *stretch), (7, told[0], told[1], RAISE))

    def test_no_key_in_common(self):
        for stretch in [(0, 10), (20, END), (0, 1), (9, 10), (20, 21), (END - 1, END)]:
            with self.subTest(stretch):
                self.assertIsNone(part(note(10, 20), *stretch))

    def test_one_key(self):
        self.assertEqual(part(note(5, 6, 1, PUT), 0, END), (1, 5, 6, PUT))
        self.assertEqual(part(note(5, 6, 1, PUT), 5, 6), (1, 5, 6, PUT))
        self.assertIsNone(part(note(5, 6, 1, PUT), 6, 7))
        self.assertIsNone(part(note(5, 6, 1, PUT), 4, 5))

    def test_what_is_told_is_a_note_of_the_common_keys(self):
        spans = [(low, high) for low in range(5) for high in range(low + 1, 6)]
        for one in spans:
            for low, high in spans:
                told = part(note(*one), low, high)
                keys = [key for key in range(6) if touches(note(*one), key) and low <= key < high]
                with self.subTest(one=one, low=low, high=high):
                    self.assertEqual(told, note(keys[0], keys[-1] + 1) if keys else None)
                    self.assertIs(told is None or is_note(told), True)

    def test_refused(self):
        for at, thing in enumerate(NO_NOTES + OTHERS):
            for stretch in [(0, 5)] + NO_STRETCHES:
                with self.subTest(at=at, stretch=stretch), self.assertRaises(NoNote):
                    part(thing, *stretch)
        for stretch in NO_STRETCHES + [(thing, 5) for thing in OTHERS] + [(0, thing) for thing in OTHERS]:
            with self.subTest(at=len(stretch)), self.assertRaises(NoStretch):
                part(note(0, END), *stretch)

    def test_handed_in_by_name(self):
        self.assertEqual(part(high=5, low=3, note=note(0, 9)), note(3, 5))


if __name__ == "__main__":
    unittest.main()
