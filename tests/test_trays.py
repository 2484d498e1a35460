import copy
import random
import unittest

from notefall.actions import acts, behind
from notefall.notes import is_note, part, shares
from notefall.trays import laid, poured, seen
from notefall.wholes import END
from things import add, level, put, up, wipe

WIPE = (("gone",), ("gone",))
SIXTY = 10 ** 60 - 1


def some_note(chance, number):
    low, high = sorted(chance.sample(range(9), 2))
    n = chance.randint(-2, 2)
    notes = [put(number, low, n), add(number, low, n), (number, low, low + 1, WIPE), up(number, low, high, n)]
    return chance.choice(notes + [up(number, low, low + 1, n), level(number, low, high, n), wipe(number, low, high)])


def some_tray(chance, many):
    """Notes of rising numbers, some of them put out of their numbers' order where they share no key."""
    numbers = sorted(chance.sample(range(1, 40), many))
    tray = [some_note(chance, number) for number in numbers]
    for place in range(len(tray) - 1):
        if chance.random() < 0.5 and not shares(tray[place], tray[place + 1]):
            tray[place], tray[place + 1] = tray[place + 1], tray[place]
    return tray


class Seen(unittest.TestCase):
    TRAY = [put(2, 5, 10), up(4, 0, 9, 3), wipe(5, 20, 30), add(7, 5, 1), (9, 5, 6, WIPE)]

    def test_an_empty_tray(self):
        for value in (None, 0, 4, -SIXTY):
            for at in (None, 0, 7):
                with self.subTest(value=value, at=at):
                    self.assertEqual(seen([], 5, value, at=at), value)

    def test_several_notes_on_one_key(self):
        self.assertIsNone(seen(self.TRAY, 5, 1))
        self.assertEqual(seen(self.TRAY[:-1], 5, 1), 14)
        self.assertEqual(seen(self.TRAY[:-1], 5, None), 14)
        self.assertEqual(seen(self.TRAY[1:-1], 5, 1), 5)
        self.assertEqual(seen(self.TRAY[1:-1], 5, None), 1)

    def test_notes_that_do_not_touch_the_key(self):
        self.assertEqual(seen(self.TRAY, 9, 6), 6)
        self.assertEqual(seen(self.TRAY, 19, 6), 6)
        self.assertEqual(seen(self.TRAY, 30, 6), 6)
        self.assertIsNone(seen(self.TRAY, 9, None))
        self.assertIsNone(seen(self.TRAY, END - 1, None))

    def test_at_each_end_of_a_stretch(self):
        for key, told in [(0, 4), (8, 4), (9, 1), (20, None), (29, None), (30, 1)]:
            with self.subTest(key):
                self.assertEqual(seen(self.TRAY, key, 1), told)

    def test_up_to_a_number(self):
        rows = [(None, None), (0, 1), (1, 1), (2, 10), (3, 10), (4, 13), (6, 13), (7, 14), (9, None), (SIXTY, None)]
        for at, told in rows:
            with self.subTest(at):
                self.assertEqual(seen(self.TRAY, 5, 1, at=at), told)
        self.assertIsNone(seen(self.TRAY, 5, None, at=1))
        self.assertIsNone(seen(self.TRAY, 5, None, at=0))

    def test_in_the_order_of_the_list_and_not_of_the_numbers(self):
        tray = [put(9, 3, 1), put(4, 5, 2), up(11, 5, 8, 5), wipe(10, 0, 5), add(12, 3, 6)]
        self.assertEqual(seen(tray, 3, 0), 6)
        self.assertEqual(seen(tray, 5, 0), 7)
        self.assertEqual(seen(tray, 5, 0, at=10), 2)
        self.assertEqual(seen(tray, 3, 0, at=9), 1)
        self.assertIsNone(seen(tray, 3, 0, at=10))
        self.assertEqual(seen(tray, 3, 0, at=4), 0)

    def test_the_tray_stays(self):
        tray = list(self.TRAY)
        seen(tray, 5, 1, at=4)
        self.assertEqual(tray, self.TRAY)

    def test_handed_in_by_name(self):
        self.assertEqual(seen(at=4, value=1, key=5, tray=self.TRAY), 13)
        self.assertEqual(seen(self.TRAY, key=8, value=1), 4)
        with self.assertRaises(TypeError):
            seen(self.TRAY, 5, 1, 4)

    def test_note_by_note(self):
        chance = random.Random(11)
        for turn in range(300):
            tray = some_tray(chance, chance.randint(0, 8))
            for key in range(9):
                for at in (None, 0, 20, 40):
                    for value in (None, 0, 5):
                        told = value
                        for number, low, high, action in tray:
                            if low <= key < high and (at is None or number <= at):
                                told = acts(action, told)
                        self.assertEqual(seen(tray, key, value, at=at), told)


class Laid(unittest.TestCase):
    def lays(self, tray, note, marks, told):
        kept = (copy.deepcopy(tray), note, list(marks))
        made = laid(tray, note, marks)
        self.assertEqual(made, told)
        self.assertIsNot(made, tray)
        self.assertEqual((tray, note, marks), kept)
        made.append("more")
        self.assertEqual((tray, note, marks), kept)

    def test_an_empty_tray(self):
        for marks in ([], [1], [3, 7]):
            self.lays([], put(5, 3, 1), marks, [put(5, 3, 1)])
            self.lays([], wipe(5, 0, END), marks, [wipe(5, 0, END)])

    def test_the_very_stretch(self):
        self.lays([up(2, 0, 9, 3)], up(5, 0, 9, 4), [], [up(5, 0, 9, 7)])
        self.lays([put(2, 3, 1)], add(5, 3, 4), [], [put(5, 3, 5)])
        self.lays([up(2, 0, 9, 3)], wipe(5, 0, 9), [], [wipe(5, 0, 9)])
        self.lays([wipe(2, 0, 9)], up(5, 0, 9, 3), [], [wipe(5, 0, 9)])

    def test_the_elder_comes_first(self):
        self.lays([up(2, 3, 4, 8)], put(5, 3, 1), [], [put(5, 3, 1)])
        self.lays([put(2, 3, 1)], up(5, 3, 4, 8), [], [put(5, 3, 9)])
        self.lays([add(2, 3, 1)], level(5, 3, 4, 8), [], [(5, 3, 4, (("is", 8), ("is", 8)))])

    def test_laid_at_the_end(self):
        tray = [up(2, 0, 9, 3), put(3, 20, 1), put(4, 30, 1)]
        self.lays(tray, up(5, 0, 9, 4), [], [put(3, 20, 1), put(4, 30, 1), up(5, 0, 9, 7)])
        self.lays(tray, put(5, 20, 2), [], [up(2, 0, 9, 3), put(4, 30, 1), put(5, 20, 2)])
        self.lays(tray, put(5, 40, 2), [], tray + [put(5, 40, 2)])

    def test_another_stretch(self):
        tray = [up(2, 3, 9, 3)]
        for low, high in [(3, 8), (4, 9), (2, 9), (3, 10), (0, 4), (8, 20), (5, 6), (0, 3), (9, 12), (0, END)]:
            with self.subTest(low=low, high=high):
                self.lays(tray, up(5, low, high, 4), [], tray + [up(5, low, high, 4)])

    def test_one_between_shares_a_key(self):
        tray = [up(2, 0, 9, 3), put(3, 8, 1)]
        self.lays(tray, up(5, 0, 9, 4), [], tray + [up(5, 0, 9, 4)])
        tray = [put(2, 3, 1), up(3, 0, 4, 1)]
        self.lays(tray, put(5, 3, 2), [], tray + [put(5, 3, 2)])

    def test_the_last_one_that_has_the_stretch(self):
        tray = [up(2, 0, 9, 1), put(3, 5, 1), up(4, 0, 9, 2)]
        self.lays(tray, up(6, 0, 9, 4), [], [up(2, 0, 9, 1), put(3, 5, 1), up(6, 0, 9, 6)])

    def test_marks(self):
        tray = [up(4, 0, 9, 3)]
        joined = [up(8, 0, 9, 7)]
        apart = [up(4, 0, 9, 3), up(8, 0, 9, 4)]
        rows = [
            ([], joined), ([3], joined), ([1, 2, 3], joined), ([4], apart), ([5], apart), ([7], apart), ([8], joined),
            ([9], joined), ([3, 8], joined), ([1, 3, 8, 20], joined), ([3, 4, 8], apart), ([3, 7, 8], apart),
            ([1, 6], apart), ([6, 20], apart), ([SIXTY], joined),
        ]
        for marks, told in rows:
            with self.subTest(marks=marks):
                self.lays(tray, up(8, 0, 9, 4), marks, told)

    def test_a_mark_behind_a_note_that_is_not_the_last(self):
        tray = [up(2, 0, 9, 1), put(3, 20, 5), put(6, 30, 1)]
        self.lays(tray, up(8, 0, 9, 4), [1, 9], [put(3, 20, 5), put(6, 30, 1), up(8, 0, 9, 5)])
        self.lays(tray, up(8, 0, 9, 4), [6], tray + [up(8, 0, 9, 4)])
        self.lays(tray, put(8, 30, 4), [5], tray[:2] + [put(8, 30, 4)])

    def test_the_same_is_seen_as_with_the_note_put_at_the_end(self):
        chance = random.Random(12)
        for turn in range(1500):
            tray = some_tray(chance, chance.randint(0, 7))
            note = some_note(chance, 41)
            marks = sorted(chance.sample(range(1, 45), chance.choice([0, 0, 1, 2, 4])))
            kept = (list(tray), list(marks))
            made = laid(tray, note, marks)
            self.assertEqual((tray, marks), kept)
            self.assertTrue(all(is_note(other) for other in made))
            for at in marks + [None]:
                for key in range(9):
                    for value in (None, 0, 5):
                        self.assertEqual(seen(made, key, value, at=at), seen(tray + [note], key, value, at=at))

    def test_one_behind_another(self):
        tray = []
        action = WIPE
        for number, value in enumerate((4, -1, 0, 9), start=1):
            tray = laid(tray, add(number, 3, value), [])
            action = behind(action, add(number, 3, value)[3])
        self.assertEqual(tray, [(4, 3, 4, (("plus", 12), ("is", 12)))])
        self.assertEqual(action, (("is", 12), ("is", 12)))

    def test_handed_in_by_name(self):
        self.assertEqual(laid(marks=[], note=put(5, 3, 1), tray=[]), [put(5, 3, 1)])


class Poured(unittest.TestCase):
    TRAY = [put(2, 5, 10), up(4, 0, 9, 3), wipe(5, 20, 30), add(7, 5, 1), level(9, 8, 25, 6)]

    def pours(self, tray, low, high, inside, left):
        kept = copy.deepcopy(tray)
        told = poured(tray, low, high)
        self.assertIsInstance(told, tuple)
        self.assertEqual(told, (inside, left))
        told[0].append("more")
        told[1].append("more")
        self.assertEqual(tray, kept)

    def test_an_empty_tray(self):
        self.pours([], 0, END, [], [])
        self.pours([], 5, 6, [], [])

    def test_apart_from_all_notes(self):
        self.pours(self.TRAY, 30, END, [], self.TRAY)
        self.pours(self.TRAY, 40, 41, [], self.TRAY)
        self.pours([put(1, 5, 1)], 6, 9, [], [put(1, 5, 1)])
        self.pours([put(1, 5, 1)], 0, 5, [], [put(1, 5, 1)])

    def test_that_covers_all(self):
        self.pours(self.TRAY, 0, END, self.TRAY, [])
        self.pours(self.TRAY, 0, 30, self.TRAY, [])

    def test_within_one_note(self):
        self.pours([up(4, 0, 9, 3)], 3, 5, [up(4, 3, 5, 3)], [up(4, 0, 3, 3), up(4, 5, 9, 3)])
        self.pours([up(4, 0, END, 3)], 3, 4, [up(4, 3, 4, 3)], [up(4, 0, 3, 3), up(4, 4, END, 3)])
        self.pours([up(4, 0, 9, 3)], 0, 5, [up(4, 0, 5, 3)], [up(4, 5, 9, 3)])
        self.pours([up(4, 0, 9, 3)], 5, 9, [up(4, 5, 9, 3)], [up(4, 0, 5, 3)])

    def test_of_one_key(self):
        inside = [put(2, 5, 10), up(4, 5, 6, 3), add(7, 5, 1)]
        left = [up(4, 0, 5, 3), up(4, 6, 9, 3), wipe(5, 20, 30), level(9, 8, 25, 6)]
        self.pours(self.TRAY, 5, 6, inside, left)
        self.pours(self.TRAY, 0, 1, [up(4, 0, 1, 3)], [put(2, 5, 10), up(4, 1, 9, 3)] + self.TRAY[2:])
        self.pours([wipe(1, END - 2, END)], END - 1, END, [wipe(1, END - 1, END)], [wipe(1, END - 2, END - 1)])

    def test_over_several_notes(self):
        inside = [up(4, 7, 9, 3), wipe(5, 20, 22), level(9, 8, 22, 6)]
        left = [put(2, 5, 10), up(4, 0, 7, 3), wipe(5, 22, 30), add(7, 5, 1), level(9, 22, 25, 6)]
        self.pours(self.TRAY, 7, 22, inside, left)

    def test_each_key_is_touched_as_ahead(self):
        chance = random.Random(13)
        for turn in range(500):
            tray = some_tray(chance, chance.randint(0, 8))
            low, high = sorted(chance.sample(range(10), 2))
            inside, left = poured(tray, low, high)
            self.assertTrue(all(is_note(note) for note in inside + left))
            self.assertEqual(inside, [part(note, low, high) for note in tray if part(note, low, high)])
            for key in range(9):
                here, there = (inside, left) if low <= key < high else (left, inside)
                self.assertEqual([], [note for note in there if note[1] <= key < note[2]])
                for value in (None, 0, 5):
                    for at in (None, 20):
                        self.assertEqual(seen(here, key, value, at=at), seen(tray, key, value, at=at))

    def test_handed_in_by_name(self):
        self.assertEqual(poured(high=5, low=3, tray=[wipe(1, 0, 9)]), ([wipe(1, 3, 5)], [wipe(1, 0, 3), wipe(1, 5, 9)]))


if __name__ == "__main__":
    unittest.main()
