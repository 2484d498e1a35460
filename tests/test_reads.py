import copy
import random
import unittest

from notefall.deeds import deed_of
from notefall.errors import NoKey, NoMany, NoMark, NoStretch
from notefall.reads import (
    read_above, read_below, read_key, read_many, read_stretch, read_total, read_unlike, read_way,
)
from notefall.rooms import House, Inner, Leaf, new_house
from notefall.wholes import END
from things import OTHERS, add, plain_value, put, some_deed, up, wipe

SIXTY = 10 ** 60 - 1
NO_KEYS = [-1, END, SIXTY, -SIXTY] + OTHERS
NO_STRETCHES = [(0, 0), (5, 4), (-1, 5), (0, END + 1), (True, 5), (0, True), (None, 5), (0, None), ("0", 5), (0, (5,))]
# The kept marks of the house below are 4 and 10.
NO_MARKS = [0, 1, 3, 5, 9, 11, -4, SIXTY] + [thing for thing in OTHERS if thing is not None] + [4.0, "4", [4], (4,)]
NO_MANY = [-1, -SIXTY] + [thing for thing in OTHERS if thing is not None] + [3.0, "3", [3]]


def some_house():
    """Three rooms beneath one another, with notes in each tray and versions for the marks 4 and 10."""
    leaves = [
        Leaf(3, [(10, [(0, 1)]), (20, [(0, 2), (5, 3)])]),
        Leaf(4, [(60, [(5, 6)]), (70, [(0, 7), (5, None)])]),
        Leaf(6, []),
        Leaf(7, [(END - 1, [(0, 9)])]),
    ]
    left = Inner(1, [50], leaves[:2], [add(8, 10, 100), up(9, 0, 65, 10)])
    right = Inner(2, [200], leaves[2:], [put(6, 150, 0)])
    top = Inner(0, [100], [left, right], [put(11, 30, 5), wipe(12, 60, 61), up(13, 0, END, 1000), put(14, 70, -2)])
    return House((8, 3, 8, "fullest"), [4, 10], 8, top)


NOW = [(10, 1111), (20, 1013), (30, 1005), (70, -2), (150, 1000), (END - 1, 1009)]
AT_FOUR = [(10, 1), (20, 2), (70, 7), (END - 1, 9)]
AT_TEN = [(10, 111), (20, 13), (60, 16), (150, 0), (END - 1, 9)]
SIGHTS = {None: NOW, 4: AT_FOUR, 10: AT_TEN}


class Case(unittest.TestCase):
    def setUp(self):
        self.house = some_house()

    def refused(self, error, ask, rows):
        for at, row in enumerate(rows):
            with self.subTest(at=at), self.assertRaises(error):
                ask(self.house, *row)

    def refused_marks(self, ask, *things):
        """The ask is refused with NoMark for what is no kept mark, behind the refusals of its other things."""
        for at, mark in enumerate(NO_MARKS):
            with self.subTest(at=at), self.assertRaises(NoMark):
                ask(self.house, *things, at=mark)

    def empty(self):
        return new_house((4, 3, 4, "fullest"))


class Key(Case):
    def test_now_and_at_the_marks(self):
        for at, sight in SIGHTS.items():
            for key in (0, 9, 10, 11, 20, 30, 50, 60, 70, 99, 100, 150, 200, END - 2, END - 1):
                with self.subTest(key=key, at=at):
                    self.assertEqual(read_key(self.house, key, at=at), dict(sight).get(key))

    def test_from_beneath_up(self):
        self.house.top.tray = [(15, 10, 11, (("is", 4), ("gone",)))]
        self.assertEqual(read_key(self.house, 10), 4)
        self.house.top.children[0].tray = [wipe(8, 10, 11)]
        self.assertIsNone(read_key(self.house, 10))

    def test_a_house_without_rows(self):
        for key in (0, 5, END - 1):
            self.assertIsNone(read_key(self.empty(), key))

    def test_refused(self):
        self.refused(NoKey, read_key, [(key,) for key in NO_KEYS])
        self.refused_marks(read_key, 10)
        with self.assertRaises(NoKey):
            read_key(self.house, END, at=5)


class Stretch(Case):
    def test_all(self):
        for at, sight in SIGHTS.items():
            with self.subTest(at):
                self.assertEqual(read_stretch(self.house, at=at), sight)
                self.assertEqual(read_stretch(self.house, 0, END, at=at), sight)
                self.assertEqual(read_stretch(self.house, at=at, back=True), sight[::-1])
                self.assertEqual(read_stretch(self.house, at=at, back=False), sight)

    def test_parts_of_it(self):
        edges = [0, 10, 11, 30, 31, 60, 70, 71, 99, 100, 101, 150, 151, END - 1, END]
        for at, sight in SIGHTS.items():
            for low in edges:
                for high in edges:
                    if low < high:
                        told = [pair for pair in sight if low <= pair[0] < high]
                        with self.subTest(at=at, low=low, high=high):
                            self.assertEqual(read_stretch(self.house, low, high, at=at), told)
                            self.assertEqual(read_stretch(self.house, high=high, low=low, at=at, back=True), told[::-1])

    def test_low_or_high_alone(self):
        self.assertEqual(read_stretch(self.house, 70), NOW[3:])
        self.assertEqual(read_stretch(self.house, high=70), NOW[:3])

    def test_most(self):
        for most in (0, 1, 2, 5, 6, 7, SIXTY):
            with self.subTest(most):
                self.assertEqual(read_stretch(self.house, most=most), NOW[:most])
                self.assertEqual(read_stretch(self.house, most=most, back=True), NOW[::-1][:most])
                self.assertEqual(read_stretch(self.house, 20, 151, most=most), NOW[1:5][:most])
        self.assertEqual(read_stretch(self.house, most=None), NOW)

    def test_what_is_told_is_a_new_list(self):
        read_stretch(self.house).append("more")
        self.assertEqual(read_stretch(self.house), NOW)

    def test_a_house_without_rows(self):
        self.assertEqual(read_stretch(self.empty()), [])
        self.assertEqual(read_stretch(self.empty(), back=True, most=3), [])

    def test_refused(self):
        self.refused(NoStretch, read_stretch, NO_STRETCHES)
        self.refused(NoStretch, read_stretch, [(thing, 9) for thing in OTHERS] + [(0, thing) for thing in OTHERS])
        self.refused_marks(read_stretch)
        for at, most in enumerate(NO_MANY):
            with self.subTest(at=at), self.assertRaises(NoMany):
                read_stretch(self.house, most=most)

    def test_the_refusal_told_first_comes(self):
        with self.assertRaises(NoStretch):
            read_stretch(self.house, 5, 5, at=5, most=-1)
        with self.assertRaises(NoMark):
            read_stretch(self.house, 0, 5, at=5, most=-1)
        with self.assertRaises(NoStretch):
            read_stretch(self.house, 5, 5, most=-1)


class AboveAndBelow(Case):
    def test_each_key_and_those_beside(self):
        for at, sight in SIGHTS.items():
            keys = [key for key, value in sight]
            for key in [0, END - 1] + [near for key in keys for near in (key - 1, key, key + 1) if near < END]:
                with self.subTest(at=at, key=key):
                    above = min([other for other in keys if other > key], default=None)
                    below = max([other for other in keys if other < key], default=None)
                    self.assertEqual(read_above(self.house, key, at=at), above)
                    self.assertEqual(read_below(self.house, key, at=at), below)

    def test_written_out(self):
        self.assertEqual(read_above(self.house, 30), 70)
        self.assertEqual(read_above(self.house, 30, at=10), 60)
        self.assertEqual(read_below(self.house, 70), 30)
        self.assertEqual(read_above(self.house, END - 2), END - 1)
        self.assertIsNone(read_above(self.house, END - 1))
        self.assertIsNone(read_below(self.house, 0))
        self.assertIsNone(read_below(self.house, 10))
        self.assertEqual(read_below(self.house, END - 1), 150)

    def test_a_house_without_rows(self):
        for ask in (read_above, read_below):
            for key in (0, 5, END - 1):
                self.assertIsNone(ask(self.empty(), key))

    def test_refused(self):
        for ask in (read_above, read_below):
            self.refused(NoKey, ask, [(key,) for key in NO_KEYS])
            self.refused_marks(ask, 10)
            with self.assertRaises(NoKey):
                ask(self.house, -1, at=5)


class ManyAndTotal(Case):
    def test_parts(self):
        for at, sight in SIGHTS.items():
            for low, high in [(0, END), (0, 1), (10, 11), (0, 31), (31, 70), (70, 71), (71, END - 1), (END - 1, END)]:
                values = [value for key, value in sight if low <= key < high]
                with self.subTest(at=at, low=low, high=high):
                    self.assertEqual(read_many(self.house, low, high, at=at), len(values))
                    self.assertEqual(read_total(self.house, low, high, at=at), sum(values))

    def test_written_out(self):
        self.assertEqual((read_many(self.house, 0, END), read_total(self.house, 0, END)), (6, 5136))
        self.assertEqual((read_many(self.house, 0, END, at=4), read_total(self.house, 0, END, at=4)), (4, 19))
        self.assertEqual((read_many(self.empty(), 0, END), read_total(self.empty(), 0, END)), (0, 0))

    def test_refused(self):
        for ask in (read_many, read_total):
            self.refused(NoStretch, ask, NO_STRETCHES)
            self.refused_marks(ask, 0, END)
            with self.assertRaises(NoStretch):
                ask(self.house, 5, 5, at=5)


class Unlike(Case):
    def test_each_pair(self):
        for one, left in SIGHTS.items():
            for other, right in SIGHTS.items():
                keys = sorted({key for key, value in left + right})
                told = [(key, dict(left).get(key), dict(right).get(key)) for key in keys]
                with self.subTest(one=one, other=other):
                    self.assertEqual(read_unlike(self.house, one, other), [row for row in told if row[1] != row[2]])

    def test_written_out(self):
        told = [(10, 1, 111), (20, 2, 13), (60, None, 16), (70, 7, None), (150, None, 0)]
        self.assertEqual(read_unlike(self.house, 4, 10), told)
        self.assertEqual(read_unlike(self.house, 10, 4), [(key, other, one) for key, one, other in told])
        self.assertEqual(read_unlike(self.house, 4, 4), [])
        self.assertEqual(read_unlike(self.house, None, None), [])
        self.assertEqual(read_unlike(self.house, 10, None)[-1], (END - 1, 9, 1009))

    def test_refused(self):
        for at, mark in enumerate(NO_MARKS):
            for pair in ((mark, None), (None, mark), (4, mark), (mark, 4), (mark, mark)):
                with self.subTest(at=at), self.assertRaises(NoMark):
                    read_unlike(self.house, *pair)


class Way(Case):
    def test_through_the_rooms(self):
        rooms = [(0, [up(13, 0, END, 1000)]), (1, [add(8, 10, 100), up(9, 0, 65, 10)]), (3, [(0, 1)])]
        self.assertEqual(read_way(self.house, 10), (1111, rooms))

    def test_at_a_mark(self):
        rooms = [(0, []), (1, [add(8, 10, 100), up(9, 0, 65, 10)]), (3, [(0, 1)])]
        self.assertEqual(read_way(self.house, 10, at=10), (111, rooms))
        self.assertEqual(read_way(self.house, 10, at=4), (1, [(0, []), (1, []), (3, [(0, 1)])]))
        self.assertEqual(read_way(self.house, 20, at=4), (2, [(0, []), (1, []), (3, [(0, 2), (5, 3)])]))

    def test_notes_stay_whole_and_in_order(self):
        rooms = [(0, [up(13, 0, END, 1000), put(14, 70, -2)]), (1, []), (4, [(0, 7), (5, None)])]
        self.assertEqual(read_way(self.house, 70), (-2, rooms))
        self.assertEqual(read_way(self.house, 60)[1][0], (0, [wipe(12, 60, 61), up(13, 0, END, 1000)]))

    def test_a_key_without_a_row(self):
        top = (0, [up(13, 0, END, 1000)])
        self.assertEqual(read_way(self.house, 150), (1000, [top, (2, [put(6, 150, 0)]), (6, [])]))
        self.assertEqual(read_way(self.house, 0), (None, [top, (1, [up(9, 0, 65, 10)]), (3, [])]))

    def test_at_the_pivots(self):
        for key, numbers in [(49, [0, 1, 3]), (50, [0, 1, 4]), (99, [0, 1, 4]), (100, [0, 2, 6]), (200, [0, 2, 7])]:
            with self.subTest(key):
                self.assertEqual([number for number, things in read_way(self.house, key)[1]], numbers)

    def test_a_leaf_alone(self):
        self.assertEqual(read_way(self.empty(), 5), (None, [(0, [])]))

    def test_what_is_told_is_the_askers_own(self):
        told = read_way(self.house, 10)
        kept = copy.deepcopy(told)
        for number, things in told[1]:
            things.append("more")
        told[1].append("more")
        self.assertEqual(read_way(self.house, 10), kept)
        self.assertEqual(read_stretch(self.house), NOW)

    def test_refused(self):
        self.refused(NoKey, read_way, [(key,) for key in NO_KEYS])
        self.refused_marks(read_way, 10)
        with self.assertRaises(NoKey):
            read_way(self.house, END, at=5)


class ManyDeeds(unittest.TestCase):
    KEYS = list(range(3, 60, 3)) + [0, END - 1]

    def as_plain(self, house, deeds, at):
        plain = [(key, plain_value(deeds, key, at)) for key in sorted(self.KEYS)]
        sight = [pair for pair in plain if pair[1] is not None]
        self.assertEqual(read_stretch(house, at=at), sight)
        self.assertEqual(read_stretch(house, 9, 40, at=at, most=3), [pair for pair in sight if 9 <= pair[0] < 40][:3])
        for key, value in plain:
            self.assertEqual(read_key(house, key, at=at), value)
            self.assertEqual(read_way(house, key, at=at)[0], value)
            self.assertEqual(read_above(house, key, at=at), min([k for k, v in sight if k > key], default=None))
            self.assertEqual(read_below(house, key, at=at), max([k for k, v in sight if k < key], default=None))
        return dict(sight)

    def test_what_is_read_is_the_plain_map(self):
        chance = random.Random(41)
        for rule in [(1, 3, 1, "fullest"), (3, 3, 2, "eldest"), (6, 4, 3, "fullest"), (64, 16, 64, "eldest")]:
            house = new_house(rule)
            deeds = []
            for turn in range(160):
                deeds.append(some_deed(chance, self.KEYS, house.kept))
                note = deed_of(deeds[-1]).note(len(deeds))
                if deeds[-1][0] == "mark":
                    house.kept = house.kept + [len(deeds)]
                elif note is None:
                    house.kept = [mark for mark in house.kept if mark != deeds[-1][1]]
                else:
                    house.lay(note)
                if turn % 20 == 19:
                    sights = [(at, self.as_plain(house, deeds, at)) for at in house.kept + [None]]
                    for at, sight in sights:
                        now = sights[-1][1]
                        rows = [(key, sight.get(key), now.get(key)) for key in sorted(self.KEYS)]
                        self.assertEqual(read_unlike(house, at, None), [row for row in rows if row[1] != row[2]])


if __name__ == "__main__":
    unittest.main()
