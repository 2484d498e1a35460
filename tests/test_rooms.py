import random
import unittest

from notefall.deeds import deed_of
from notefall.notes import is_note, shares
from notefall.reads import read_key
from notefall.rooms import House, Inner, Leaf, child_place, is_bare, new_house, stretches
from notefall.wholes import END
from things import add, level, plain_value, put, some_deed, up, wipe


def rows_of(*keys):
    return [(key, [(0, key)]) for key in keys]


def leaf(number, *keys):
    return Leaf(number, rows_of(*keys))


def shape(room):
    """A room and all beneath it as tuples."""
    if isinstance(room, Leaf):
        return ("leaf", room.number, room.rows)
    return ("inner", room.number, room.pivots, [shape(child) for child in room.children], room.tray)


def shape_of(house):
    return shape(house.top)


def house_of(top, rule=(4, 3, 4, "fullest"), kept=(), fresh=50):
    return House(rule, list(kept), fresh, top)


def three_leaves(tray, children=None):
    """A room of three leaves: from 0, from 100 and from 200 on."""
    return Inner(0, [100, 200], children or [leaf(1, 10, 20), leaf(2, 110), leaf(3, 210)], list(tray))


class Rooms(unittest.TestCase):
    def test_a_new_house(self):
        house = new_house((4, 3, 4, "eldest"))
        self.assertEqual(shape_of(house), ("leaf", 0, []))
        self.assertEqual((house.rule, house.kept, house.fresh, house.trail), ((4, 3, 4, "eldest"), [], 1, []))

    def test_stretches(self):
        room = three_leaves([])
        self.assertEqual(stretches(room, 0, END), [(0, 100), (100, 200), (200, END)])
        self.assertEqual(stretches(room, 50, 300), [(50, 100), (100, 200), (200, 300)])
        self.assertEqual(stretches(Inner(0, [], [leaf(1)], []), 3, 9), [(3, 9)])

    def test_the_child_in_whose_stretch_a_key_lies(self):
        for key, place in [(0, 0), (99, 0), (100, 1), (199, 1), (200, 2), (END - 1, 2)]:
            with self.subTest(key):
                self.assertEqual(child_place(three_leaves([]), key), place)
        self.assertEqual(child_place(Inner(0, [], [leaf(1)], []), 5), 0)

    def test_bare(self):
        self.assertIs(is_bare(leaf(1)), True)
        self.assertIs(is_bare(leaf(1, 5)), False)
        self.assertIs(is_bare(Inner(2, [], [leaf(1)], [])), True)
        self.assertIs(is_bare(Inner(3, [], [Inner(2, [], [leaf(1)], [])], [])), True)
        self.assertIs(is_bare(Inner(2, [], [leaf(1)], [put(1, 5, 1)])), False)
        self.assertIs(is_bare(Inner(3, [], [Inner(2, [], [leaf(1)], [put(1, 5, 1)])], [])), False)
        self.assertIs(is_bare(Inner(2, [], [leaf(1, 5)], [])), False)
        self.assertIs(is_bare(Inner(2, [5], [leaf(1), leaf(3)], [])), False)


class Laying(unittest.TestCase):
    def test_in_a_leaf(self):
        house = new_house((4, 3, 4, "fullest"))
        house.lay(put(1, 5, 7))
        self.assertEqual(shape_of(house), ("leaf", 0, [(5, [(0, 7)])]))
        self.assertEqual(house.trail, [("lay", put(1, 5, 7))])
        house.kept = [2]
        house.lay(up(3, 0, END, 1))
        house.lay(put(4, 0, 1))
        self.assertEqual(shape_of(house), ("leaf", 0, [(0, [(3, 1)]), (5, [(0, 7), (3, 8)])]))
        house.kept = []
        house.lay(wipe(5, 5, 9))
        self.assertEqual(shape_of(house), ("leaf", 0, [(0, [(0, 1)])]))
        self.assertEqual(house.trail, [("lay", wipe(5, 5, 9))])

    def test_in_an_inner_room(self):
        house = house_of(three_leaves([put(5, 10, 1)]))
        house.lay(up(6, 50, 150, 2))
        self.assertEqual(house.top.tray, [put(5, 10, 1), up(6, 50, 150, 2)])
        house.lay(add(7, 10, 3))
        self.assertEqual(house.top.tray, [up(6, 50, 150, 2), put(7, 10, 4)])
        house.kept = [7]
        house.lay(add(8, 10, 3))
        self.assertEqual(house.top.tray, [up(6, 50, 150, 2), put(7, 10, 4), add(8, 10, 3)])
        self.assertEqual([child.rows for child in house.top.children], [rows_of(10, 20), rows_of(110), rows_of(210)])
        self.assertEqual(house.trail, [("lay", add(8, 10, 3))])

    def test_just_as_many_notes_as_the_rule_lets(self):
        house = house_of(three_leaves([put(5, 10, 1), put(6, 11, 1), put(7, 12, 1)]))
        house.lay(put(8, 13, 1))
        self.assertEqual(len(house.top.tray), 4)
        self.assertEqual(house.trail, [("lay", put(8, 13, 1))])

    def test_one_more_is_poured(self):
        house = house_of(three_leaves([put(5, 10, 1), put(6, 11, 1), put(7, 110, 1), put(8, 210, 1)]))
        house.lay(put(9, 111, 1))
        self.assertEqual(house.trail, [("lay", put(9, 111, 1)), ("pour", 0, 1, 2)])
        self.assertEqual(house.top.tray, [put(7, 110, 1), put(8, 210, 1), put(9, 111, 1)])
        self.assertEqual(house.top.children[0].rows, [(10, [(0, 1)]), (11, [(0, 1)]), (20, [(0, 20)])])


class Plans(unittest.TestCase):
    def first_pour(self, tray, plan, most=4):
        house = house_of(three_leaves(tray[:-1]), rule=(most, 3, 9, plan))
        house.lay(tray[-1])
        return house.trail[1]

    def test_fullest(self):
        tray = [put(5, 10, 1), put(6, 210, 1), put(7, 110, 1), put(8, 211, 1), put(9, 212, 1)]
        self.assertEqual(self.first_pour(tray, "fullest"), ("pour", 0, 3, 3))

    def test_fullest_counts_parts_of_wide_notes(self):
        tray = [up(5, 50, 150, 1), put(6, 210, 1), put(7, 110, 1), up(8, 150, 201, 1), put(9, 212, 1)]
        self.assertEqual(self.first_pour(tray, "fullest"), ("pour", 0, 2, 3))

    def test_the_leftmost_of_several(self):
        tray = [put(5, 210, 1), put(6, 110, 1), put(7, 111, 1), put(8, 211, 1), put(9, 10, 1)]
        self.assertEqual(self.first_pour(tray, "fullest"), ("pour", 0, 2, 2))
        self.assertEqual(self.first_pour([put(5, 250, 1), put(6, 150, 1)], "fullest", most=1), ("pour", 0, 2, 1))

    def test_eldest(self):
        tray = [put(5, 110, 1), put(6, 210, 1), put(7, 10, 1), put(8, 211, 1), put(9, 212, 1)]
        self.assertEqual(self.first_pour(tray, "eldest"), ("pour", 0, 2, 1))

    def test_the_leftmost_that_the_first_note_touches(self):
        rest = [put(6, 210, 1), put(7, 211, 1), put(8, 212, 1), put(9, 213, 1)]
        self.assertEqual(self.first_pour([up(5, 99, 250, 1)] + rest, "eldest"), ("pour", 0, 1, 1))
        self.assertEqual(self.first_pour([up(5, 100, 250, 1)] + rest, "eldest"), ("pour", 0, 2, 1))
        self.assertEqual(self.first_pour([up(5, 199, 250, 1)] + rest, "eldest"), ("pour", 0, 2, 1))
        self.assertEqual(self.first_pour([up(5, 200, 250, 1)] + rest, "eldest"), ("pour", 0, 3, 5))

    def test_the_first_note_and_not_the_least_number(self):
        tray = [put(8, 210, 1), put(5, 10, 1), put(6, 110, 1), put(7, 111, 1), put(9, 112, 1)]
        self.assertEqual(self.first_pour(tray, "eldest"), ("pour", 0, 3, 1))

    def test_as_long_as_there_are_too_many(self):
        house = house_of(three_leaves([up(5, 0, END, 1)]), rule=(1, 3, 9, "fullest"))
        house.lay(up(6, 100, 200, 1))
        self.assertEqual(house.trail[1:], [("pour", 0, 2, 2), ("pour", 0, 1, 1)])
        self.assertEqual(house.top.tray, [up(5, 200, END, 1)])
        self.assertEqual([read_key(house, key) for key in (10, 20, 110, 210)], [11, 21, 112, 211])


class Pouring(unittest.TestCase):
    def test_into_a_leaf_at_one_go(self):
        tray = [up(5, 50, 150, 1), put(6, 210, 1), put(7, 111, 9), wipe(8, 110, 111), up(9, 90, 120, 1)]
        house = house_of(three_leaves(tray))
        house.pour_into(house.top, 1, 0, END)
        left = [up(5, 50, 100, 1), put(6, 210, 1), up(9, 90, 100, 1)]
        self.assertEqual(house.top.tray, left)
        self.assertEqual(shape(house.top.children[1]), ("leaf", 2, [(111, [(0, 10)])]))
        self.assertEqual(house.trail, [("pour", 0, 2, 4)])

    def test_with_marks_versions_stay(self):
        house = house_of(three_leaves([put(5, 110, 1), put(7, 111, 2)]), kept=[4, 6])
        house.pour_into(house.top, 1, 0, END)
        self.assertEqual(house.top.children[1].rows, [(110, [(0, 110), (5, 1)]), (111, [(7, 2)])])

    def test_no_note_goes_and_the_rows_are_swept(self):
        top = three_leaves([put(9, 10, 1)], [leaf(1, 10), Leaf(2, [(110, [(2, 1), (4, 5)])]), leaf(3, 210)])
        house = house_of(top)
        house.pour_into(top, 1, 0, END)
        self.assertEqual(house.trail, [("pour", 0, 2, 0)])
        self.assertEqual(top.children[1].rows, [(110, [(0, 5)])])
        self.assertEqual(top.tray, [put(9, 10, 1)])

    def test_into_an_inner_room_one_by_one(self):
        child = Inner(1, [50], [leaf(2, 10), leaf(3, 60)], [up(3, 0, 100, 1)])
        other = Inner(4, [150], [leaf(5, 110), leaf(6, 160)], [])
        tray = [up(5, 0, 100, 2), put(6, 60, 4), add(7, 60, 1), put(8, 120, 1)]
        house = house_of(Inner(0, [100], [child, other], tray))
        house.pour_into(house.top, 0, 0, END)
        self.assertEqual(house.top.tray, [put(8, 120, 1)])
        self.assertEqual(child.tray, [up(5, 0, 100, 3), put(7, 60, 5)])
        self.assertEqual(house.trail, [("pour", 0, 1, 3)])

    def test_only_then_it_is_looked_at_whether_it_has_too_many(self):
        child = Inner(1, [50], [leaf(2, 10), leaf(3, 60)], [put(1, 10, 1)])
        other = Inner(4, [150], [leaf(5, 110), leaf(6, 160)], [])
        tray = [put(5, 60, 4), put(6, 61, 4), put(7, 20, 1), put(8, 30, 1)]
        house = house_of(Inner(0, [100], [child, other], tray), rule=(2, 3, 9, "fullest"))
        house.pour_into(house.top, 0, 0, END)
        self.assertEqual(house.trail, [("pour", 0, 1, 4), ("pour", 1, 2, 3)])
        self.assertEqual(child.tray, [put(5, 60, 4), put(6, 61, 4)])

    def test_down_several_rooms_the_stretches_hold(self):
        below = Inner(2, [20], [leaf(3, 10), leaf(4, 30)], [])
        child = Inner(1, [50], [below, Inner(5, [70], [leaf(6, 60), leaf(7, 80)], [])], [])
        other = Inner(8, [150], [Inner(9, [], [leaf(10, 110)], []), Inner(11, [], [leaf(12, 160)], [])], [])
        house = house_of(Inner(0, [100], [child, other], [up(5, 0, END, 1)]), rule=(1, 3, 9, "eldest"))
        house.lay(up(6, 0, 200, 1))
        pours = [("pour", 0, 1, 2), ("pour", 0, 8, 2), ("pour", 8, 9, 2), ("pour", 8, 11, 2), ("pour", 11, 12, 2)]
        self.assertEqual(house.trail[1:], pours)
        self.assertEqual((house.top.tray, child.tray, other.tray), ([], [up(6, 0, 100, 2)], []))
        self.assertEqual([room.tray for room in other.children], [[up(6, 100, 150, 2)], []])
        self.assertEqual([read_key(house, key) for key in (10, 30, 60, 80, 110, 160)], [12, 32, 62, 82, 112, 162])


class Clearing(unittest.TestCase):
    def poured(self, tray, place, kept=(), children=None):
        house = house_of(three_leaves(tray, children), kept=kept)
        house.pour_into(house.top, place, 0, END)
        return house

    def numbers(self, house):
        return [child.number for child in house.top.children]

    def test_each_child(self):
        rows = [(0, (0, 100), [200], [2, 3]), (1, (100, 200), [200], [1, 3]), (2, (200, END), [100], [1, 2])]
        for place, (low, high), pivots, numbers in rows:
            house = self.poured([wipe(5, low, high)], place)
            with self.subTest(place):
                self.assertEqual(house.top.pivots, pivots)
                self.assertEqual(self.numbers(house), numbers)
                self.assertEqual(house.top.tray, [])
                self.assertEqual(house.trail, [("clear", 0, place + 1)])

    def test_a_wider_note_stays_outside_of_the_stretch(self):
        house = self.poured([wipe(5, 50, 250)], 1)
        self.assertEqual(house.top.tray, [wipe(5, 50, 100), wipe(5, 200, 250)])
        self.assertEqual(self.numbers(house), [1, 3])

    def test_those_ahead_leave_what_is_left_at_its_place(self):
        tray = [put(3, 10, 1), up(4, 90, 110, 1), put(5, 150, 1), put(6, 250, 1), wipe(7, 100, 200), put(8, 20, 1)]
        house = self.poured(tray, 1)
        self.assertEqual(house.top.tray, [put(3, 10, 1), up(4, 90, 100, 1), put(6, 250, 1), put(8, 20, 1)])

    def test_those_behind_stay_whole(self):
        tray = [put(4, 150, 1), wipe(5, 100, 200), up(6, 50, 250, 1), put(7, 150, 2)]
        house = self.poured(tray, 1)
        self.assertEqual(house.top.tray, [up(6, 50, 250, 1), put(7, 150, 2)])
        self.assertEqual(house.trail, [("clear", 0, 2)])
        self.assertEqual([read_key(house, key) for key in (20, 110, 150, 210)], [20, None, 2, 211])

    def test_the_last_such_one(self):
        tray = [wipe(4, 100, 200), put(5, 150, 1), wipe(6, 50, 200), put(7, 160, 1), wipe(8, 100, 199)]
        house = self.poured(tray, 1)
        self.assertEqual(house.top.tray, [wipe(6, 50, 100), put(7, 160, 1), wipe(8, 100, 199)])

    def test_a_mark_below_its_number(self):
        for kept, cleared in [([], True), ([5], True), ([6, 9], True), ([4], False), ([1, 9], False), ([4, 5], False)]:
            house = self.poured([wipe(5, 100, 200)], 1, kept)
            with self.subTest(kept):
                self.assertEqual(house.trail[0][0], "clear" if cleared else "pour")
                self.assertEqual(read_key(house, 110), None)
                for mark in kept:
                    self.assertEqual(read_key(house, 110, at=mark), None if mark >= 5 else 110)

    def test_the_last_one_that_no_mark_is_below(self):
        house = self.poured([wipe(4, 100, 200), put(6, 150, 1), wipe(8, 100, 200)], 1, [6])
        self.assertEqual(house.trail, [("clear", 0, 2)])
        self.assertEqual(house.top.tray, [put(6, 150, 1), wipe(8, 100, 200)])
        self.assertEqual((read_key(house, 150, at=6), read_key(house, 150)), (1, None))

    def test_not_the_whole_stretch(self):
        for low, high in [(101, 200), (100, 199), (0, 199), (101, END), (110, 111)]:
            house = self.poured([wipe(5, low, high)], 1)
            with self.subTest(low=low, high=high):
                self.assertEqual(house.trail[0], ("pour", 0, 2, 1))
        self.assertEqual(self.poured([wipe(5, 200, END - 1)], 2).trail[0], ("pour", 0, 3, 1))
        self.assertEqual(self.poured([wipe(5, 1, 100)], 0).trail[0], ("pour", 0, 1, 1))

    def test_another_action(self):
        for note in (level(5, 100, 200, 0), up(5, 100, 200, 0), up(5, 0, END, 3)):
            with self.subTest(note):
                self.assertEqual(self.poured([note], 1).trail, [("pour", 0, 2, 1)])

    def test_an_only_child_is_not_cleared(self):
        house = house_of(Inner(0, [], [leaf(1, 10)], [wipe(5, 0, END)]))
        house.pour_into(house.top, 0, 0, END)
        self.assertEqual(house.trail, [("pour", 0, 1, 1)])
        self.assertEqual(shape_of(house), ("inner", 0, [], [("leaf", 1, [])], []))

    def test_a_leaf_of_one_key(self):
        top = Inner(0, [5, 6], [leaf(1, 4), leaf(2, 5), leaf(3, 6)], [(3, 5, 6, (("gone",), ("gone",)))])
        house = house_of(top)
        house.pour_into(top, 1, 0, END)
        self.assertEqual((house.trail, top.pivots), ([("clear", 0, 2)], [6]))

    def test_an_inner_child_goes_with_all_beneath_it(self):
        child = Inner(1, [50], [leaf(2, 10), leaf(3, 60)], [put(3, 20, 1)])
        other = Inner(4, [150], [leaf(5, 110), leaf(6, 160)], [put(2, 170, 1)])
        house = house_of(Inner(0, [100], [child, other], [wipe(7, 0, 120)]))
        house.pour_into(house.top, 0, 0, END)
        self.assertEqual(shape_of(house), ("inner", 0, [], [shape(other)], [wipe(7, 100, 120)]))
        self.assertEqual(stretches(other, 0, END), [(0, 150), (150, END)])
        self.assertEqual([read_key(house, key) for key in (10, 20, 60, 110, 160)], [None, None, None, None, 160])

    def test_within_a_deed(self):
        house = house_of(three_leaves([put(5, 150, 1)]), rule=(1, 3, 9, "eldest"))
        house.lay(wipe(6, 0, 200))
        self.assertEqual(house.trail[1:], [("clear", 0, 2)])
        left = [shape(leaf(1, 10, 20)), shape(leaf(3, 210))]
        self.assertEqual(shape_of(house), ("inner", 0, [200], left, [wipe(6, 0, 100)]))


class Mending(unittest.TestCase):
    def mended(self, children, place, pivots=(100, 200), tray=(), rule=(4, 3, 4, "fullest")):
        house = house_of(Inner(0, list(pivots), children, list(tray)), rule=rule)
        house.mend(house.top, place, 0, END)
        return house

    def test_a_bare_child_goes(self):
        for place, pivots in [(0, [200]), (1, [200]), (2, [100])]:
            children = [leaf(1, 10), leaf(2, 110), leaf(3, 210)]
            left = [shape(child) for child in children if child.number != place + 1]
            children[place] = leaf(place + 1)
            house = self.mended(children, place)
            with self.subTest(place):
                self.assertEqual(shape_of(house), ("inner", 0, pivots, left, []))
                self.assertEqual(house.trail, [("out", 0, place + 1)])

    def test_a_bare_inner_child_goes(self):
        house = self.mended([Inner(1, [], [leaf(2)], []), Inner(3, [], [leaf(4, 210)], [])], 0, pivots=[100])
        self.assertEqual(shape_of(house), ("inner", 0, [], [("inner", 3, [], [shape(leaf(4, 210))], [])], []))
        self.assertEqual(house.trail, [("out", 0, 1)])

    def test_an_only_child_stays(self):
        house = self.mended([leaf(1)], 0, pivots=[])
        self.assertEqual(shape_of(house), ("inner", 0, [], [("leaf", 1, [])], []))
        self.assertEqual(house.trail, [])

    def test_only_the_child_at_the_place(self):
        house = self.mended([leaf(1), leaf(2, 110), leaf(3)], 1)
        self.assertEqual(house.trail, [])
        self.assertEqual(len(house.top.children), 3)

    def test_just_as_many_rows_as_the_rule_lets(self):
        self.assertEqual(self.mended([leaf(1, 1, 2, 3, 4), leaf(2, 110)], 0, pivots=[100]).trail, [])

    def test_a_leaf_of_one_row_more_is_parted(self):
        house = self.mended([leaf(1, 10), leaf(2, 110, 120, 130, 140, 150), leaf(3, 210)], 1)
        parts = [leaf(1, 10), leaf(2, 110, 120, 130), leaf(50, 140, 150), leaf(3, 210)]
        self.assertEqual(shape_of(house), ("inner", 0, [100, 140, 200], [shape(part) for part in parts], []))
        self.assertEqual(house.trail, [("part", 2, [140], [50])])
        self.assertEqual(house.fresh, 51)

    def test_a_leaf_is_parted_into_several(self):
        house = self.mended([leaf(1, *range(7))], 0, pivots=[], rule=(4, 3, 3, "fullest"))
        parts = [leaf(1, 0, 1, 2), leaf(50, 3, 4), leaf(51, 5, 6)]
        self.assertEqual(shape_of(house), ("inner", 0, [3, 5], [shape(part) for part in parts], []))
        self.assertEqual(house.trail, [("part", 1, [3, 5], [50, 51])])
        self.assertEqual(house.fresh, 52)

    def test_an_inner_room_is_parted(self):
        leaves = [leaf(number, number * 10) for number in range(1, 8)]
        tray = [up(3, 5, 65, 1), put(4, 30, 1), put(5, 39, 1), put(6, 40, 1), wipe(7, 59, 61)]
        child = Inner(9, [20, 30, 40, 50, 60, 70], leaves, tray)
        other = Inner(10, [110], [leaf(11, 100), leaf(12, 110)], [])
        house = self.mended([child, other], 0, pivots=[90], rule=(5, 3, 4, "fullest"))
        first = Inner(9, [20, 30], leaves[:3], [up(3, 5, 40, 1), put(4, 30, 1), put(5, 39, 1)])
        second = Inner(50, [50], leaves[3:5], [up(3, 40, 60, 1), put(6, 40, 1), wipe(7, 59, 60)])
        third = Inner(51, [70], leaves[5:], [up(3, 60, 65, 1), wipe(7, 60, 61)])
        rooms = [shape(part) for part in (first, second, third, other)]
        self.assertEqual(shape_of(house), ("inner", 0, [40, 60, 90], rooms, []))
        self.assertEqual(house.trail, [("part", 9, [40, 60], [50, 51])])

    def test_just_as_many_children_as_the_rule_lets(self):
        child = Inner(9, [20, 30], [leaf(1, 10), leaf(2, 20), leaf(3, 30)], [])
        self.assertEqual(self.mended([child], 0, pivots=[]).trail, [])

    def test_behind_a_pouring(self):
        house = house_of(three_leaves([put(5, 150, 1), put(6, 160, 1)]), rule=(2, 3, 2, "fullest"))
        house.lay(put(7, 10, 1))
        self.assertEqual(house.trail[1:3], [("pour", 0, 2, 2), ("part", 2, [160], [50])])
        house = house_of(three_leaves([wipe(5, 110, 111)]), rule=(1, 3, 4, "eldest"))
        house.lay(put(6, 10, 1))
        self.assertEqual(house.trail[1:], [("pour", 0, 2, 1), ("out", 0, 2)])


class TheTop(unittest.TestCase):
    def test_a_leaf_that_is_too_great(self):
        house = new_house((4, 3, 2, "fullest"))
        for number, key in enumerate((30, 10, 20), start=1):
            self.assertEqual(house.top.number, 0)
            house.lay(put(number, key, key))
        self.assertEqual(shape_of(house), ("inner", 1, [30], [shape(leaf(0, 10, 20)), shape(leaf(2, 30))], []))
        self.assertEqual(house.trail, [("lay", put(3, 20, 20)), ("top", 1), ("part", 0, [30], [2])])
        self.assertEqual(house.fresh, 3)

    def test_an_inner_room_that_is_too_great(self):
        top = Inner(0, [20, 30, 40], [leaf(number, number * 10) for number in range(1, 5)], [up(2, 0, 35, 1)])
        house = house_of(top)
        house.mend_top()
        parts = [("inner", 0, [20], [shape(leaf(1, 10)), shape(leaf(2, 20))], [up(2, 0, 30, 1)])]
        parts.append(("inner", 51, [40], [shape(leaf(3, 30)), shape(leaf(4, 40))], [up(2, 30, 35, 1)]))
        self.assertEqual(shape_of(house), ("inner", 50, [30], parts, []))
        self.assertEqual(house.trail, [("top", 50), ("part", 0, [30], [51])])

    def test_so_on_till_none_is_too_great(self):
        house = house_of(leaf(0, *range(10)), rule=(4, 3, 1, "fullest"), fresh=1)
        house.mend_top()
        steps = [("top", 1), ("part", 0), ("top", 11), ("part", 1), ("top", 15), ("part", 11)]
        self.assertEqual([step[:2] for step in house.trail], steps)
        self.assertEqual(house.trail[3], ("part", 1, [3, 6, 8], [12, 13, 14]))
        self.assertEqual(house.trail[5], ("part", 11, [6], [16]))
        self.assertEqual(house.top.pivots, [6])
        self.assertEqual([child.pivots for child in house.top.children], [[3], [8]])

    def test_a_top_room_of_one_child_and_no_notes_goes(self):
        house = house_of(Inner(0, [], [Inner(1, [], [leaf(2, 10)], [])], []))
        house.mend_top()
        self.assertEqual(shape_of(house), shape(leaf(2, 10)))
        self.assertEqual(house.trail, [("low", 0), ("low", 1)])

    def test_one_with_notes_or_more_children_stays(self):
        for top in (Inner(0, [], [leaf(1, 10)], [put(3, 5, 1)]), three_leaves([]), leaf(0)):
            house = house_of(top)
            house.mend_top()
            with self.subTest(shape(top)):
                self.assertEqual(house.trail, [])
                self.assertIs(house.top, top)
        house = house_of(Inner(0, [], [Inner(1, [], [leaf(2, 10)], [put(3, 5, 1)])], []))
        house.mend_top()
        self.assertEqual(house.trail, [("low", 0)])

    def test_behind_a_deed(self):
        house = house_of(Inner(0, [100], [leaf(1, 10), leaf(2, 110)], [put(3, 10, 4)]), rule=(1, 3, 4, "eldest"))
        house.lay(wipe(4, 0, END))
        self.assertEqual(house.trail, [("lay", wipe(4, 0, END)), ("clear", 0, 1)])
        house.lay(put(5, 300, 1))
        self.assertEqual(house.trail[1:], [("pour", 0, 2, 2), ("low", 0)])
        self.assertEqual(shape_of(house), ("leaf", 2, [(300, [(0, 1)])]))


class ManyDeeds(unittest.TestCase):
    KEYS = list(range(3, 60, 3)) + [0, END - 1]

    def sound(self, house, room, low, high, above, last, numbers):
        """The rooms keep to [21] and to the rule; told is how many rooms there are beneath one another."""
        tray, fan, rows, plan = house.rule
        self.assertLess(room.number, house.fresh)
        self.assertNotIn(room.number, numbers)
        numbers.append(room.number)
        if isinstance(room, Leaf):
            keys = [key for key, versions in room.rows]
            self.assertEqual(keys, sorted(set(keys)))
            self.assertLessEqual(len(keys), rows)
            self.assertTrue(all(low <= key < high for key in keys))
            for key, versions in room.rows:
                self.assertTrue(versions)
                least = min([note[0] for note in above if note[1] <= key < note[2]] + [last + 1])
                self.assertTrue(all(number < least for number, value in versions))
            return 1
        self.assertLessEqual(len(room.tray), tray)
        self.assertLessEqual(len(room.children), fan)
        self.assertEqual(len(room.children), len(room.pivots) + 1)
        edges = [low] + room.pivots + [high]
        self.assertEqual(edges, sorted(set(edges)))
        for place, note in enumerate(room.tray):
            self.assertTrue(is_note(note) and low <= note[1] and note[2] <= high and note[0] <= last)
            self.assertTrue(all(other[0] < note[0] for other in room.tray[:place] if shares(other, note)))
            self.assertTrue(all(other[0] > note[0] for other in above if shares(other, note)))
        depths = []
        for child, (first, end) in zip(room.children, stretches(room, low, high)):
            depths.append(self.sound(house, child, first, end, above + room.tray, last, numbers))
        self.assertEqual(len(set(depths)), 1)
        return depths[0] + 1

    def do(self, house, deeds, told):
        deeds.append(told)
        if told[0] == "mark":
            house.kept = house.kept + [len(deeds)]
        elif told[0] == "forget":
            house.kept = [mark for mark in house.kept if mark != told[1]]
        else:
            house.lay(deed_of(told).note(len(deeds)))

    def run_of(self, chance, rule, many):
        house = new_house(rule)
        deeds = []
        steps = []
        for turn in range(many):
            house.trail = []
            self.do(house, deeds, some_deed(chance, self.KEYS, house.kept))
            steps += house.trail
            self.sound(house, house.top, 0, END, [], len(deeds), [])
            for key in self.KEYS if turn % 10 == 9 else chance.sample(self.KEYS, 2):
                for at in house.kept + [None]:
                    self.assertEqual(read_key(house, key, at=at), plain_value(deeds, key, at))
        return steps

    def test_what_is_read_is_the_plain_map(self):
        chance = random.Random(31)
        words = {}
        for tray in (1, 2, 5):
            for fan, rows in ((3, 1), (3, 2), (4, 3)):
                for plan in ("fullest", "eldest"):
                    for step in self.run_of(chance, (tray, fan, rows, plan), 150):
                        words[step[0]] = words.get(step[0], 0) + 1
                        if step[0] == "pour" and plan == "fullest":
                            self.assertGreaterEqual(step[3], (tray + fan) // fan)
        self.assertEqual(sorted(words), ["clear", "lay", "low", "out", "part", "pour", "top"])

    def test_stores_of_the_same_deeds_stand_alike(self):
        for plan in ("fullest", "eldest"):
            one, other = [random.Random(32), random.Random(32)]
            self.assertEqual(self.run_of(one, (3, 3, 2, plan), 80), self.run_of(other, (3, 3, 2, plan), 80))


if __name__ == "__main__":
    unittest.main()
