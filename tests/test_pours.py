import random
import unittest

from notefall.errors import NoRoom, NoStretch
from notefall.pours import bundles, pour_by_hand, press_out, squeeze_all
from notefall.reads import read_stretch
from notefall.rolls import all_rooms, roll_of, top_of
from notefall.rooms import House, Inner, Leaf, new_house
from notefall.wholes import END
from things import OTHERS, add, put, up, wipe


def leaf(number, *keys):
    return Leaf(number, [(key, [(0, key)]) for key in keys])


def house_of(top, rule=(4, 3, 4, "fullest"), kept=(), fresh=50):
    return House(rule, list(kept), fresh, top)


def two_floors(top_tray=(), left_tray=(), right_tray=()):
    """Two inner rooms of two leaves each, beneath the top room: from 0, 50, 100 and 150 on."""
    left = Inner(1, [50], [leaf(2, 10, 20), leaf(3, 60)], list(left_tray))
    right = Inner(4, [150], [leaf(5, 110), leaf(6, 160)], list(right_tray))
    return Inner(0, [100], [left, right], list(top_tray))


def trays(house):
    return {room[1]: room[4] for room in roll_of(house.top) if room[0] == "inner"}


def keys_of(house):
    return {room[1]: [key for key, versions in room[2]] for room in roll_of(house.top) if room[0] == "leaf"}


class Rolls(unittest.TestCase):
    def test_the_order_and_the_stretches(self):
        rows = [(room.number, low, high) for room, low, high in all_rooms(two_floors())]
        left = [(0, 0, END), (1, 0, 100), (2, 0, 50), (3, 50, 100)]
        self.assertEqual(rows, left + [(4, 100, END), (5, 100, 150), (6, 150, END)])
        self.assertEqual([row[1:] for row in all_rooms(leaf(7))], [(0, END)])

    def test_as_tuples_and_back(self):
        top = two_floors([put(9, 5, 1)], [up(3, 0, 70, 1)], [])
        roll = roll_of(top)
        self.assertEqual(roll[0], ("inner", 0, [100], [1, 4], [put(9, 5, 1)]))
        self.assertEqual(roll[3], ("leaf", 3, [(60, [(0, 60)])]))
        self.assertEqual(roll_of(top_of(roll)), roll)

    def test_no_list_is_shared(self):
        top = two_floors([put(9, 5, 1)])
        roll = roll_of(top)
        other = top_of(roll)
        for room in roll:
            for things in room[2:]:
                things.append("more")
        roll[2][2][0][1].append("more")
        self.assertEqual(roll_of(top), roll_of(other))
        self.assertEqual(roll_of(top), roll_of(two_floors([put(9, 5, 1)])))


class PourByHand(unittest.TestCase):
    def test_from_the_top_room(self):
        house = house_of(two_floors([put(8, 70, 1), put(9, 170, 1)], [put(3, 5, 5)]))
        self.assertIsNone(pour_by_hand(house, 0, 1))
        self.assertEqual(trays(house), {0: [put(9, 170, 1)], 1: [put(3, 5, 5), put(8, 70, 1)], 4: []})
        self.assertEqual(house.trail, [("pour", 0, 1, 1)])

    def test_from_a_room_beneath(self):
        house = house_of(two_floors([put(9, 5, 7)], [], [put(4, 170, 3), put(5, 120, 4)]))
        pour_by_hand(house, 4, 6)
        self.assertEqual(trays(house), {0: [put(9, 5, 7)], 1: [], 4: [put(5, 120, 4)]})
        self.assertEqual(house.top.children[1].children[1].rows, [(160, [(0, 160)]), (170, [(0, 3)])])
        self.assertEqual(house.trail, [("pour", 4, 6, 1)])

    def test_though_no_note_goes(self):
        house = house_of(two_floors())
        house.top.children[0].children[0].rows = [(10, [(2, 1), (4, 5)]), (20, [(1, 2), (3, None)])]
        pour_by_hand(house, 1, 2)
        self.assertEqual(house.trail, [("pour", 1, 2, 0)])
        self.assertEqual(house.top.children[0].children[0].rows, [(10, [(0, 5)])])
        pour_by_hand(house, 0, 4)
        self.assertEqual(house.trail, [("pour", 0, 4, 0)])

    def test_then_the_tray_is_looked_at(self):
        top = Inner(0, [100, 200], [leaf(1, 10), leaf(2, 110), leaf(3, 210)], [up(5, 0, END, 1)])
        for plan in ("fullest", "eldest"):
            house = house_of(top_of(roll_of(top)), rule=(1, 3, 4, plan))
            pour_by_hand(house, 0, 2)
            # Two parts are left of the one note, on both sides of the child.
            self.assertEqual(house.trail, [("pour", 0, 2, 1), ("pour", 0, 1, 1)])
            self.assertEqual(trays(house), {0: [up(5, 200, END, 1)]})

    def test_only_as_long_as_it_has_too_many(self):
        top = Inner(0, [100, 200], [leaf(1, 10), leaf(2, 110), leaf(3, 210)], [up(5, 0, END, 1)])
        house = house_of(top, rule=(2, 3, 4, "fullest"))
        pour_by_hand(house, 0, 2)
        self.assertEqual(house.trail, [("pour", 0, 2, 1)])
        self.assertEqual(trays(house), {0: [up(5, 0, 100, 1), up(5, 200, END, 1)]})

    def test_through_two_floors(self):
        left = [put(3, 10, 1), put(4, 11, 1), put(5, 61, 1)]
        house = house_of(two_floors([put(8, 12, 1), put(9, 13, 1)], left))
        pour_by_hand(house, 0, 1)
        self.assertEqual(house.trail, [("pour", 0, 1, 2), ("pour", 1, 2, 4), ("part", 2, [13], [50])])
        self.assertEqual(keys_of(house), {2: [10, 11, 12], 50: [13, 20], 3: [60], 5: [110], 6: [160]})
        self.assertEqual(trays(house), {0: [], 1: [put(5, 61, 1)], 4: []})

    def test_a_clearing(self):
        house = house_of(two_floors([], [put(3, 55, 1), wipe(4, 40, 100), put(5, 70, 8)]))
        pour_by_hand(house, 1, 3)
        self.assertEqual(house.trail, [("clear", 1, 3)])
        self.assertEqual(trays(house)[1], [wipe(4, 40, 50), put(5, 70, 8)])
        self.assertEqual(house.top.children[0].pivots, [])

    def test_a_clearing_leaves_too_many(self):
        top = Inner(0, [100, 200], [leaf(1, 10), leaf(2, 110), leaf(3, 210)], [up(4, 50, 250, 1), wipe(5, 50, 250)])
        house = house_of(top, rule=(2, 3, 4, "eldest"))
        pour_by_hand(house, 0, 2)
        self.assertEqual(house.trail, [("clear", 0, 2), ("pour", 0, 1, 2)])
        self.assertEqual(trays(house), {0: [up(4, 200, 250, 1), wipe(5, 200, 250)]})

    def test_the_rooms_on_the_way_up_are_mended(self):
        leaves = [leaf(number, number * 10) for number in (1, 2, 3)]
        left = Inner(7, [20, 30], leaves, [put(2, 31, 1), put(3, 0, 1)])
        others = [Inner(8, [], [leaf(4, 40)], []), Inner(9, [], [leaf(5, 50)], [])]
        house = house_of(Inner(0, [40, 50], [left] + others, []), rule=(4, 3, 1, "fullest"))
        pour_by_hand(house, 7, 3)
        steps = [("pour", 7, 3, 1), ("part", 3, [31], [50]), ("part", 7, [30], [51])]
        self.assertEqual(house.trail, steps + [("top", 52), ("part", 0, [40], [53])])
        rooms = [(room[1], room[2], room[3]) for room in roll_of(house.top) if room[0] == "inner"]
        told = [(52, [40], [0, 53]), (0, [30], [7, 51]), (7, [20], [1, 2]), (51, [31], [3, 50])]
        self.assertEqual(rooms, told + [(53, [50], [8, 9]), (8, [], [4]), (9, [], [5])])
        self.assertEqual(trays(house), {52: [], 0: [], 7: [put(3, 0, 1)], 51: [], 53: [], 8: [], 9: []})

    def test_a_room_that_gets_bare_goes_with_those_above(self):
        below = Inner(2, [], [leaf(3, 10)], [wipe(5, 10, 11)])
        left = Inner(1, [], [below], [])
        right = Inner(4, [], [Inner(5, [], [leaf(6, 110)], [])], [])
        house = house_of(Inner(0, [100], [left, right], []))
        pour_by_hand(house, 2, 3)
        steps = [("pour", 2, 3, 1), ("out", 0, 1), ("low", 0), ("low", 4), ("low", 5)]
        self.assertEqual(house.trail, steps)
        self.assertEqual(roll_of(house.top), [("leaf", 6, [(110, [(0, 110)])])])

    def test_rooms_that_are_not_on_the_way_stay(self):
        top = two_floors([], [put(3, 5, 5)])
        top.children[1].children = [leaf(5), leaf(6)]
        top.children[0].children[1].rows = []
        house = house_of(top)
        pour_by_hand(house, 1, 2)
        self.assertEqual(house.trail, [("pour", 1, 2, 1)])
        self.assertEqual(keys_of(house), {2: [5, 10, 20], 3: [], 5: [], 6: []})

    def test_refused(self):
        kept = roll_of(two_floors([put(9, 5, 1)], [up(3, 0, 70, 1)]))
        house = house_of(top_of(kept))
        house.trail = [("lay", put(9, 5, 1))]
        pairs = [(0, 0), (0, 2), (0, 7), (0, -1), (1, 0), (1, 5), (1, 4), (2, 10), (2, 2), (3, 1), (7, 1), (-1, 1)]
        pairs += [(thing, 1) for thing in OTHERS] + [(0, thing) for thing in OTHERS] + [(True, 2), (False, 1), (0, True)]
        pairs += [(0.0, 1), (0, 1.0), ("0", 1), (0, "1"), (10 ** 60 - 1, 1), (0, 10 ** 60 - 1)]
        for at, (room, child) in enumerate(pairs):
            with self.subTest(at=at), self.assertRaises(NoRoom):
                pour_by_hand(house, room, child)
        self.assertEqual((roll_of(house.top), house.trail), (kept, [("lay", put(9, 5, 1))]))
        for room, child in [(0, 1), (True, False), (None, None)]:
            with self.assertRaises(NoRoom):
                pour_by_hand(new_house((4, 3, 4, "eldest")), room, child)


class Press(unittest.TestCase):
    def test_the_stretch_is_free_of_notes(self):
        house = house_of(two_floors([put(8, 70, 1), put(9, 170, 1)], [put(3, 61, 2)], [put(4, 160, 3)]))
        self.assertIsNone(press_out(house, 0, 100))
        self.assertEqual(trays(house), {0: [put(9, 170, 1)], 1: [], 4: [put(4, 160, 3)]})
        self.assertEqual(house.trail, [("pour", 0, 1, 1), ("pour", 1, 3, 2)])
        self.assertEqual(keys_of(house)[3], [60, 61, 70])

    def test_notes_beside_the_stretch(self):
        house = house_of(two_floors([put(8, 70, 1)], [put(3, 61, 2), put(4, 5, 2)]))
        press_out(house, 62, 70)
        self.assertEqual(house.trail, [])
        press_out(house, 71, 72)
        self.assertEqual(house.trail, [])
        press_out(house, 61, 62)
        self.assertEqual(house.trail, [("pour", 1, 3, 1)])
        press_out(house, 70, 71)
        self.assertEqual(house.trail, [("pour", 0, 1, 1), ("pour", 1, 3, 1)])
        self.assertEqual(trays(house), {0: [], 1: [put(4, 5, 2)], 4: []})

    def test_only_children_for_which_there_is_such_a_note(self):
        house = house_of(two_floors([up(8, 40, 160, 1)]))
        press_out(house, 50, 120)
        self.assertEqual(house.trail, [("pour", 0, 1, 1), ("pour", 0, 4, 1), ("pour", 1, 3, 1), ("pour", 4, 5, 1)])
        self.assertEqual(trays(house), {0: [], 1: [up(8, 40, 50, 1)], 4: [up(8, 150, 160, 1)]})

    def test_too_many_are_left_on_both_sides(self):
        top = Inner(0, [100, 200], [leaf(1, 10), leaf(2, 110), leaf(3, 210)], [up(5, 0, END, 1)])
        house = house_of(top, rule=(1, 3, 4, "fullest"))
        press_out(house, 150, 160)
        self.assertEqual(house.trail, [("pour", 0, 2, 1), ("pour", 0, 1, 1)])
        self.assertEqual(trays(house), {0: [up(5, 200, END, 1)]})

    def test_a_clearing(self):
        house = house_of(two_floors([wipe(7, 0, 120), put(8, 30, 4)]))
        press_out(house, 0, END)
        self.assertEqual(house.trail[0], ("clear", 0, 1))
        self.assertEqual(read_stretch(house), [(30, 4), (160, 160)])
        self.assertEqual([note for tray in trays(house).values() for note in tray], [])

    def test_all_is_mended_from_beneath_the_top_one_last(self):
        left = Inner(7, [20, 30], [leaf(1, 10), leaf(2, 20), leaf(3, 30)], [put(2, 31, 1)])
        right = Inner(8, [50, 60], [leaf(4, 40), leaf(5, 50), leaf(6, 60)], [put(3, 41, 1)])
        middle = Inner(9, [], [Leaf(10, [])], [])
        house = house_of(Inner(0, [35, 38], [left, middle, right], []), rule=(4, 3, 1, "fullest"))
        press_out(house, 0, END)
        pours = [("pour", 7, 3, 1), ("part", 3, [31], [50]), ("pour", 8, 4, 1), ("part", 4, [41], [51])]
        parts = [("part", 7, [30], [52]), ("part", 8, [50], [53])]
        # The middle one is bare, but nothing was poured from it or beneath it.
        self.assertEqual(house.trail, pours + parts + [("top", 54), ("part", 0, [38], [55])])

    def test_bare_rooms_go(self):
        house = house_of(two_floors([], [wipe(5, 0, 100)]))
        press_out(house, 5, 6)
        self.assertEqual(house.trail, [("clear", 1, 2)])
        self.assertEqual(trays(house)[1], [wipe(5, 50, 100)])
        press_out(house, 55, 56)
        self.assertEqual(house.trail, [("pour", 1, 3, 1), ("out", 0, 1), ("low", 0)])
        self.assertEqual(keys_of(house), {5: [110], 6: [160]})

    def test_a_leaf_alone(self):
        house = house_of(leaf(0, 5))
        press_out(house, 0, END)
        self.assertEqual((house.trail, keys_of(house)), ([], {0: [5]}))

    def test_the_top_room_is_mended_though_nothing_is_poured(self):
        house = house_of(Inner(0, [], [leaf(1, 5)], []))
        press_out(house, 0, 1)
        self.assertEqual((house.trail, keys_of(house)), ([("low", 0)], {1: [5]}))

    def test_houses_of_the_same_rooms_do_it_alike(self):
        chance = random.Random(51)
        keys = list(range(0, 90, 3))
        house = new_house((3, 3, 2, "fullest"))
        for number in range(1, 120):
            low, high = sorted(chance.sample(keys, 2))
            house.lay(put(number, chance.choice(keys), number) if number % 5 else up(number, low, high, 1))
            low, high = sorted(chance.sample(keys, 2))
            others = [House(house.rule, [], house.fresh, top_of(roll_of(house.top))) for turn in range(2)]
            for other in others:
                press_out(other, low, high)
            self.assertEqual(others[0].trail, others[1].trail)
            self.assertEqual(roll_of(others[0].top), roll_of(others[1].top))
            self.assertEqual(read_stretch(others[0]), read_stretch(house))

    def test_refused(self):
        house = house_of(two_floors([put(9, 5, 1)]))
        house.trail = [("lay", put(9, 5, 1))]
        pairs = [(0, 0), (5, 4), (-1, 5), (0, END + 1), (True, 5), (0, True)]
        for at, (low, high) in enumerate(pairs + [(thing, 9) for thing in OTHERS] + [(0, thing) for thing in OTHERS]):
            with self.subTest(at=at), self.assertRaises(NoStretch):
                press_out(house, low, high)
        self.assertEqual(roll_of(house.top), roll_of(two_floors([put(9, 5, 1)])))
        self.assertEqual(house.trail, [("lay", put(9, 5, 1))])


class Squeeze(unittest.TestCase):
    def test_bundles(self):
        self.assertEqual(bundles([1, 2, 3, 4, 5, 6, 7], 3), [[1, 2, 3], [4, 5, 6], [7]])
        self.assertEqual(bundles([1, 2, 3], 3), [[1, 2, 3]])
        self.assertEqual(bundles([], 3), [])

    def test_no_rows(self):
        house = house_of(two_floors([wipe(9, 0, END)]))
        self.assertIsNone(squeeze_all(house))
        self.assertEqual((roll_of(house.top), house.fresh, house.trail), ([("leaf", 0, [])], 1, [("squeeze",)]))

    def test_one_leaf(self):
        house = house_of(two_floors([wipe(9, 20, 161), add(10, 5, 7)]))
        squeeze_all(house)
        self.assertEqual(roll_of(house.top), [("leaf", 0, [(5, [(0, 7)]), (10, [(0, 10)])])])
        self.assertEqual((house.fresh, house.trail), (1, [("squeeze",)]))

    def test_just_as_many_rows_as_a_leaf_holds_and_one_more(self):
        for many, rooms in [(4, 1), (5, 3)]:
            house = house_of(leaf(7, *range(many)))
            squeeze_all(house)
            self.assertEqual(len(roll_of(house.top)), rooms)
        self.assertEqual(roll_of(house.top)[0], ("inner", 0, [4], [1, 2], []))
        self.assertEqual(keys_of(house), {1: [0, 1, 2, 3], 2: [4]})

    def test_full_rooms_numbered_in_order(self):
        house = house_of(leaf(9, *range(0, 200, 10)), rule=(1, 3, 2, "eldest"))
        squeeze_all(house)
        inners = [room for room in roll_of(house.top) if room[0] == "inner"]
        told = [("inner", 0, [180], [1, 14], []), ("inner", 1, [60, 120], [2, 6, 10], [])]
        told += [("inner", 2, [20, 40], [3, 4, 5], []), ("inner", 6, [80, 100], [7, 8, 9], [])]
        told += [("inner", 10, [140, 160], [11, 12, 13], []), ("inner", 14, [], [15], []), ("inner", 15, [], [16], [])]
        self.assertEqual(inners, told)
        self.assertEqual([room[1] for room in roll_of(house.top)], list(range(17)))
        self.assertEqual(house.fresh, 17)
        self.assertEqual(keys_of(house)[16], [180, 190])

    def test_rows_are_swept(self):
        rows = [(5, [(1, 1), (2, 2), (4, 3)]), (6, [(3, 1), (6, None)]), (7, [(1, 1), (5, None)])]
        house = house_of(Leaf(0, rows), kept=[4])
        squeeze_all(house)
        told = [(5, [(0, 3)]), (6, [(0, 1), (5, None)]), (7, [(0, 1), (5, None)])]
        self.assertEqual(roll_of(house.top), [("leaf", 0, told)])
        house.kept = []
        squeeze_all(house)
        self.assertEqual(roll_of(house.top), [("leaf", 0, [(5, [(0, 3)])])])

    def test_notes_from_beneath_up(self):
        house = house_of(two_floors([up(9, 0, END, 1)], [put(4, 10, 1)], [wipe(5, 110, 111)]), kept=[6])
        squeeze_all(house)
        told = [(10, [(0, 1), (7, 2)]), (20, [(0, 20), (7, 21)]), (60, [(0, 60), (7, 61)]), (160, [(0, 160), (7, 161)])]
        self.assertEqual(roll_of(house.top), [("leaf", 0, told)])

    def test_twice_in_a_row(self):
        chance = random.Random(52)
        house = new_house((2, 3, 2, "eldest"))
        for number in range(1, 60):
            house.lay(put(number, chance.randrange(100), number))
        squeeze_all(house)
        roll, fresh = roll_of(house.top), house.fresh
        squeeze_all(house)
        self.assertEqual((roll_of(house.top), house.fresh), (roll, fresh))


if __name__ == "__main__":
    unittest.main()
