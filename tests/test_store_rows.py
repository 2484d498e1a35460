"""Rows of deeds and works: what a store reads is the plain map of its deeds, and its image keeps to its form."""

import random
import unittest

from notefall.store import Store
from notefall.wholes import END
from things import PlainMap, check_image, some_deed

SMALL = [(1, 3, 1), (2, 3, 2), (4, 4, 3)]
GREAT = [(16, 6, 8), (64, 16, 64), (1, 16, 64), (64, 3, 1)]
RULES = [(*sizes, plan) for sizes in SMALL + GREAT for plan in ("fullest", "eldest")]
NEAR = list(range(100, 145, 2))
EDGES = [0, 1, END - 2, END - 1]


class Rows(unittest.TestCase):
    def reads_as(self, store, plain, keys):
        """All doors tell the plain map, now and at each kept mark."""
        self.assertEqual((store.last, store.marks()), (plain.last, plain.marks()))
        self.assertEqual(len(store), len(plain.now))
        for at in plain.marks() + [None]:
            sight = plain.sight(at)
            self.assertEqual(store.stretch(at=at), sight)
            for key in keys:
                self.assertEqual(store.read(key, at=at), dict(sight).get(key))

    def reads_all_as(self, store, plain, chance, keys):
        self.reads_as(store, plain, keys)
        for at in plain.marks() + [None]:
            sight = plain.sight(at)
            low, high = sorted(chance.sample(keys + [END], 2))
            inside = [pair for pair in sight if low <= pair[0] < high]
            self.assertEqual(store.stretch(low, high, at=at, most=3), inside[:3])
            self.assertEqual(store.stretch(low, high, at=at, back=True), inside[::-1])
            self.assertEqual(store.many(low, high, at=at), len(inside))
            self.assertEqual(store.total(low, high, at=at), sum(value for key, value in inside))
            for key in keys:
                self.assertEqual(store.above(key, at=at), min([one for one, value in sight if one > key], default=None))
                self.assertEqual(store.below(key, at=at), max([one for one, value in sight if one < key], default=None))
                self.assertEqual(store.way(key, at=at)[0], dict(sight).get(key))
            now = dict(plain.now)
            rows = [(key, dict(sight).get(key), now.get(key)) for key in sorted({**dict(sight), **now})]
            self.assertEqual(store.unlike(at, None), [row for row in rows if row[1] != row[2]])
            rows = []
            store.each(lambda key, value: rows.append((key, value)), low, high)
            self.assertEqual(rows, [pair for pair in plain.sight() if low <= pair[0] < high])

    def work(self, chance, store, keys):
        """A pouring by hand, a pressing or a squeezing."""
        inners = [room for room in store.image()[4] if room[0] == "inner"]
        turn = chance.randrange(8)
        if turn == 0:
            store.squeeze()
        elif turn < 4 or not inners:
            store.press(*sorted(chance.sample(keys + [END], 2)))
        else:
            room = chance.choice(inners)
            store.pour(room[1], chance.choice(room[3]))

    def run_of(self, chance, rule, keys, deeds, works):
        store, plain = Store(rule), PlainMap()
        for turn in range(deeds):
            deed = some_deed(chance, keys, plain.marks())
            self.assertEqual(store.do(deed), plain.do(deed))
            check_image(self, store.image())
            if chance.random() < works:
                ahead = store.image()
                self.work(chance, store, keys)
                check_image(self, store.image())
                self.assertEqual(store.image()[:3], ahead[:3])
            self.reads_as(store, plain, chance.sample(keys, 3))
            if turn % 25 == 24:
                self.reads_all_as(store, plain, chance, keys)
        return store, plain

    def test_deeds_alone(self):
        chance = random.Random(71)
        for rule in RULES:
            for keys in (NEAR, EDGES + sorted(chance.sample(range(2, END - 2), 20))):
                with self.subTest(rule=rule, first=keys[0]):
                    self.run_of(chance, rule, keys, 150, 0)

    def test_works_between(self):
        chance = random.Random(72)
        for rule in RULES:
            with self.subTest(rule):
                self.run_of(chance, rule, chance.choice([NEAR, EDGES + NEAR]), 120, 0.3)

    def test_three_hundred_deeds_and_works(self):
        chance = random.Random(73)
        for rule in ((3, 3, 2, "fullest"), (8, 4, 4, "eldest")):
            self.run_of(chance, rule, sorted(chance.sample(range(10 ** 6), 120)), 250, 0.2)

    def test_rising_falling_and_mixed(self):
        rows = list(range(0, 400, 4))
        mixed = random.Random(74).sample(rows, len(rows))
        for rule in RULES:
            for keys in (rows, rows[::-1], mixed):
                store, plain = Store(rule), PlainMap()
                for turn, key in enumerate(keys):
                    deed = ("mark",) if turn == 50 else ("put", key, turn) if turn % 2 else ("add", key, -turn)
                    self.assertEqual(store.do(deed), plain.do(deed))
                    check_image(self, store.image())
                    self.reads_as(store, plain, [key])
                for key in keys:
                    store.do(("drop", key))
                    plain.do(("drop", key))
                self.reads_as(store, plain, keys[:9])
                check_image(self, store.image())

    def test_wide_deeds_over_much(self):
        for rule in RULES:
            store, plain = Store(rule), PlainMap()
            for turn in range(60):
                for deed in (
                    ("put", turn * 7, turn), ("raise", turn, 400 - turn, 1), ("wipe", turn * 6, turn * 6 + 3),
                    ("level", turn * 5, turn * 5 + 20, turn),
                ):
                    store.do(deed)
                    plain.do(deed)
                check_image(self, store.image())
                self.reads_as(store, plain, [turn * 7])

    def test_all_is_wiped_again_and_again(self):
        for rule in RULES:
            store, plain = Store(rule), PlainMap()
            for turn in range(5):
                for deed in [("put", key * 3, key) for key in range(20)] + [("wipe", 0, END)]:
                    store.do(deed)
                    plain.do(deed)
                    self.reads_as(store, plain, [30])
                    check_image(self, store.image())
            store.press(0, END)
            self.assertEqual([room[0] for room in store.image()[4]], ["leaf"])


class SameDeeds(unittest.TestCase):
    def test_stores_of_unlike_rules_read_the_same(self):
        chance = random.Random(75)
        stores = [Store(rule) for rule in RULES]
        for turn in range(150):
            deed = some_deed(chance, NEAR, stores[0].marks())
            self.assertEqual({store.do(deed) for store in stores}, {turn + 1})
            if turn % 10 == 9:
                for at in stores[0].marks() + [None]:
                    sights = [store.stretch(at=at) for store in stores]
                    self.assertEqual(sights, [sights[0]] * len(stores))

    def test_stores_of_the_same_rule_stand_alike_behind_a_squeeze(self):
        chance = random.Random(76)
        for rule in ((2, 3, 1, "fullest"), (3, 4, 2, "eldest"), (64, 16, 64, "eldest")):
            one, other = Store(rule), Store(rule)
            for turn in range(100):
                deed = some_deed(chance, NEAR, one.marks())
                one.do(deed)
                other.do(deed)
                if turn % 7 == 6:
                    other.press(*sorted(chance.sample(NEAR, 2)))
                if turn % 31 == 30:
                    other.squeeze()
                if turn % 20 == 19:
                    twins = [one.twin(), other.twin()]
                    for twin in twins:
                        twin.squeeze()
                    self.assertEqual(twins[0].image(), twins[1].image())
                    check_image(self, twins[0].image())

    def test_unlike_deeds_that_lead_to_the_same_values(self):
        one, other = Store((2, 3, 2, "fullest")), Store((2, 3, 2, "fullest"))
        for deed in [("put", key, 5) for key in range(10)] + [("mark",), ("wipe", 3, 6)]:
            one.do(deed)
        rows = [("add", key, 2) for key in (9, 7, 5, 3, 1, 8, 6, 4, 2)] + [("raise", 0, 50, 3), ("mark",)]
        for deed in [("put", 0, 2)] + rows + [("drop", 5), ("drop", 3), ("drop", 4)]:
            other.do(deed)
        self.assertEqual((one.marks(), other.marks()), ([11], [12]))
        for store in (one, other):
            store.squeeze()
        rooms, others = one.image()[4], other.image()[4]
        self.assertEqual([room[:2] for room in rooms], [room[:2] for room in others])
        one.do(("forget", 11))
        other.do(("forget", 12))
        for store in (one, other):
            store.squeeze()
        self.assertEqual(one.image()[3:], other.image()[3:])

    def test_the_rule_with_which_it_was_begun_counts(self):
        stores = [Store((1, 3, 2, "fullest")), Store((64, 3, 2, "eldest"))]
        for store in stores:
            for key in range(0, 100, 5):
                store.do(("put", key, key))
            store.squeeze()
        self.assertEqual(stores[0].image()[3:], stores[1].image()[3:])


if __name__ == "__main__":
    unittest.main()
