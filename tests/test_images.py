import copy
import random
import unittest

from notefall.errors import FallError, NoImage
from notefall.images import image_fault, store_of
from notefall.store import Store
from notefall.wholes import END
from things import OTHERS, PlainMap, add, check_image, put, some_deed, up, wipe

SIXTY = 10 ** 60 - 1
RULE = (3, 3, 3, "fullest")


def leaf(number, *rows):
    return ("leaf", number, list(rows))


def some_image():
    """Three rooms beneath one another; the numbers of the notes and versions are such as just still fit."""
    rooms = [
        ("inner", 0, [100], [1, 4], [put(18, 10, 1), up(19, 50, 150, 2), put(7, 20, 8)]),
        ("inner", 1, [50], [2, 3], [put(6, 20, 3), put(17, 10, 3), wipe(18, 40, 100)]),
        leaf(2, (10, [(0, 1), (16, None)]), (20, [(5, 5)]), (49, [(2, 4)])),
        leaf(3, (60, [(2, 2)])),
        ("inner", 4, [200, 300], [7, 5, 9], []),
        leaf(7),
        leaf(5, (250, [(1, -4), (SIXTY // 10 ** 59, SIXTY)])),
        leaf(9, (300, [(0, 0), (20, 5)]), (END - 1, [(3, 3)])),
    ]
    return (RULE, 20, [5, 12], 10, rooms)


def with_part(place, thing):
    image = list(some_image())
    image[place] = thing
    return tuple(image)


def with_rooms(rooms):
    return with_part(4, rooms)


def with_room(place, room):
    rooms = some_image()[4]
    rooms[place] = room
    return with_rooms(rooms)


def with_thing(place, part, thing):
    room = list(some_image()[4][place])
    room[part] = thing
    return with_room(place, tuple(room))


def with_inner(place, *, pivots=None, children=None, tray=None):
    word, number, *things = some_image()[4][place]
    given = [old if new is None else new for old, new in zip(things, (pivots, children, tray))]
    return with_room(place, (word, number, *given))


class Case(unittest.TestCase):
    def fault(self, image, place):
        self.assertEqual(image_fault(image), place)
        if place is None:
            self.assertEqual(store_of(image).image(), image)
            return
        with self.assertRaises(NoImage) as caught:
            store_of(image)
        self.assertEqual(caught.exception.room, place)
        self.assertIsInstance(caught.exception, FallError)

    def faults(self, place, images):
        for at, image in enumerate(images):
            with self.subTest(at=at, place=place):
                self.fault(image, place)


class NoFault(Case):
    def test_made_by_hand(self):
        self.fault(some_image(), None)
        self.fault((RULE, 0, [], 1, [leaf(0)]), None)
        self.fault((RULE, 0, [], SIXTY, [leaf(SIXTY - 1)]), None)
        self.fault((RULE, SIXTY, [1, SIXTY], 9, [leaf(8, (0, [(0, None), (SIXTY, None)]))]), None)
        self.fault((RULE, 3, [1, 2, 3], 3, [("inner", 2, [], [0], [put(3, 0, 1)]), leaf(0, (0, [(2, 1)]))]), None)

    def test_as_many_as_the_rule_lets(self):
        rows = [(key, [(0, 1)]) for key in (0, 1, 2)]
        tray = [put(1, 5, 1), put(1, 6, 1), put(1, 7, 1)]
        rooms = [("inner", 0, [1, END - 1], [1, 2, 3], tray), leaf(1, *rows[:1]), leaf(2, *rows[1:]), leaf(3)]
        self.fault((RULE, 1, [], 4, rooms), None)
        self.fault((RULE, 1, [], 4, [leaf(3, *rows)]), None)

    def test_notes_in_any_order_that_is_a_trays(self):
        trays = [[put(5, 7, 1), put(3, 8, 1)], [up(3, 0, 9, 1), put(4, 8, 1)], [wipe(5, 5, 6), wipe(5, 6, 9)]]
        for tray in trays + [[put(9, 1, 1), up(4, 50, END, 1), add(5, 60, 1)]]:
            self.fault((RULE, 9, [], 2, [("inner", 0, [], [1], tray), leaf(1)]), None)

    def test_nine_rooms_beneath_one_another(self):
        rooms = [("inner", number, [], [number + 1], [put(20 - number, 5, 1)]) for number in range(8)]
        self.fault((RULE, 20, [], 9, rooms + [leaf(8, (5, [(12, 1)]))]), None)
        self.fault((RULE, 20, [], 9, rooms + [leaf(8, (5, [(13, 1)]))]), 8)

    def test_what_stores_tell(self):
        chance = random.Random(81)
        keys = list(range(0, 60, 3)) + [END - 1]
        for rule in ((1, 3, 1, "fullest"), (3, 3, 2, "eldest"), (64, 16, 64, "fullest")):
            store = Store(rule)
            self.fault(store.image(), None)
            for turn in range(120):
                store.do(some_deed(chance, keys, store.marks()))
                self.fault(store.image(), None)
                room = store.image()[4][0]
                if turn % 6 == 5 and room[0] == "inner":
                    store.pour(room[1], chance.choice(room[3]))
                    self.fault(store.image(), None)
                if turn % 9 == 8:
                    store.press(*sorted(chance.sample(keys, 2)))
                    self.fault(store.image(), None)
                if turn % 50 == 49:
                    store.squeeze()
                    self.fault(store.image(), None)


class Frame(Case):
    def test_no_tuple_of_five(self):
        image = some_image()
        self.faults(-1, [list(image), image[:4], image + ([],), image[1:], (image,), (), image + image])
        self.faults(-1, OTHERS)

    def test_each_part(self):
        for part in range(5):
            self.faults(-1, [with_part(part, thing) for thing in OTHERS if not (isinstance(thing, list) and part in (2, 4))])
        self.faults(-1, [with_part(0, rule) for rule in ((3, 2, 3, "fullest"), (3, 3, 3, "full"), list(RULE), RULE[:3])])
        self.faults(-1, [with_part(1, last) for last in (-1, -SIXTY, 11, True)])
        self.faults(-1, [with_part(3, fresh) for fresh in (0, -1, True, "9")])
        self.faults(-1, [with_part(4, tuple(some_image()[4]))])

    def test_marks(self):
        wrong = [[0], [0, 5], [5, 5], [12, 5], [21], [5, 21], [-1], [True], [True, 5], ["5"], [None], [5.0], [[5]], (5, 12)]
        self.faults(-1, [with_part(2, marks) for marks in wrong])
        self.faults(-1, [with_part(2, [5, thing]) for thing in OTHERS])
        for marks in ([], [1], [20], [1, 20], list(range(1, 21))):
            self.fault(with_part(2, marks), None)

    def test_it_comes_ahead_of_the_rooms(self):
        for image in ((RULE, -1, [], 10, []), (RULE, 0, [1], 10, [7]), (None, 0, [], 1, [None])):
            self.fault(image, -1)


class FirstDash(Case):
    def test_no_such_tuple(self):
        for place, room in enumerate(some_image()[4]):
            wrong = [list(room), room[:-1], room + ([],), room[1:], ("Leaf",) + room[1:], (None,) + room[1:], ()]
            wrong += [("inner",) + room[1:]] if room[0] == "leaf" else [("leaf",) + room[1:]]
            self.faults(place, [with_room(place, thing) for thing in wrong + OTHERS])

    def test_things_of_another_kind(self):
        for place, room in enumerate(some_image()[4]):
            for part in range(len(room)):
                for thing in OTHERS:
                    if not (isinstance(thing, list) and part >= 2):
                        self.faults(place, [with_thing(place, part, thing)])

    def test_rows(self):
        for place in (2, 3, 5, 6, 7):
            key, wide = {2: (11, 12), 3: (61, 62), 5: (150, 151), 6: (251, 252), 7: (400, 401)}[place]
            fine = [(0, 1)]
            wrong = [[(key, [])], [(key, (0, 1))], [(key, ((0, 1),))], [(key,)], [(key, fine, 1)], [[key, fine]]]
            wrong += [[(key, fine), (key, fine)], [(wide, fine), (key, fine)], [(True, fine)], [(str(key), fine)]]
            wrong += [[(key, [versions])] for versions in ((-1, 1), (True, 1), (0,), (0, 1, 1), [0, 1], (None, 1), (0, "1"))]
            wrong += [[(key, [(0, thing)])] for thing in OTHERS if thing is not None]
            wrong += [[(key, [(thing, 1)])] for thing in OTHERS]
            wrong += [[(key, [thing])] for thing in OTHERS if not isinstance(thing, tuple)]
            wrong += [[(key, thing)] for thing in OTHERS] + [[(thing, fine)] for thing in OTHERS]
            wrong += [[thing] for thing in OTHERS] + [[(key, [(0, 1), (0, 2)])], [(key, [(1, 1), (0, 2)])]]
            self.faults(place, [with_thing(place, 2, rows) for rows in wrong])
            self.fault(with_thing(place, 2, [(key, [(0, None), (1, None)]), (wide, [(0, -SIXTY)])]), None)

    def test_pivots_children_and_notes(self):
        for place in (0, 1, 4):
            word, number, pivots, children, tray = some_image()[4][place]
            for thing in OTHERS:
                self.faults(place, [with_inner(place, pivots=[thing] + pivots[1:])])
                self.faults(place, [with_inner(place, children=children[:-1] + [thing])])
                self.faults(place, [with_inner(place, tray=[thing])])
            notes = [(5, 150, 150, (("gone",), ("gone",))), (5, 10, 12, (("is", 1), ("is", 1))), list(put(5, 10, 1))]
            notes += [put(0, 10, 1), put(True, 10, 1), put(5, 10, 1)[:3], (5, 10, 11, (("gone",), ("plus", 1)))]
            self.faults(place, [with_inner(place, tray=[note]) for note in notes])

    def test_numbers(self):
        for place, room in enumerate(some_image()[4]):
            wrong = [10, 11, SIXTY, -1] + ([8, 6] if place else [])
            self.faults(place, [with_thing(place, 1, number) for number in wrong])
        # The top room may have any number that no other one has.
        self.fault(with_thing(0, 1, 8), None)

    def test_a_number_that_fresh_does_not_reach(self):
        for fresh, place in [(10, None), (9, 7), (8, 7), (7, 5), (5, 5), (4, 4), (2, 2), (1, 1)]:
            self.fault(with_part(3, fresh), place)

    def test_the_number_of_a_room_ahead(self):
        for place, twin in [(1, 0), (4, 1), (4, 2), (5, 0), (7, 7), (7, 3)]:
            rooms = some_image()[4]
            word, number, pivots, children, tray = rooms[{1: 0, 4: 0, 5: 4, 7: 4}[place]]
            told = [twin if child == rooms[place][1] else child for child in children]
            rooms[{1: 0, 4: 0, 5: 4, 7: 4}[place]] = (word, number, pivots, told, tray)
            rooms[place] = (rooms[place][0], twin) + rooms[place][2:]
            self.fault(with_rooms(rooms), place)

    def test_another_number_than_the_room_above_tells(self):
        self.fault(with_inner(0, children=[4, 1]), 1)
        self.fault(with_inner(0, children=[1, 8]), 4)
        self.fault(with_inner(1, children=[3, 2]), 2)
        self.fault(with_inner(4, children=[7, 5, 8]), 7)

    def test_a_room_lacks_or_is_too_many(self):
        rooms = some_image()[4]
        for many in range(8):
            self.fault(with_rooms(rooms[:many]), many)
        self.fault(with_rooms(rooms + [leaf(8)]), 8)
        self.fault(with_rooms(rooms + [None, leaf(8)]), 8)
        for place in range(1, 7):
            self.fault(with_rooms(rooms[:place] + rooms[place + 1:]), place)
        self.fault((RULE, 0, [], 2, [leaf(0), leaf(1)]), 1)


class SecondDash(Case):
    def test_children(self):
        self.faults(4, [with_inner(4, children=[]), with_inner(4, pivots=[], children=[]), with_inner(4, children=[7, 5])])
        self.faults(4, [with_inner(4, children=[7, 5, 9, 6]), with_inner(4, pivots=[200]), with_inner(4, pivots=[])])
        self.fault(with_inner(4, pivots=[200, 300, 400], children=[7, 5, 9, 6]), 4)
        self.fault(with_inner(0, pivots=[], children=[1, 4]), 0)
        self.fault(with_inner(0, pivots=[100, 200, 300], children=[1, 4, 6, 8]), 0)
        self.fault(with_inner(1, pivots=[50, 60]), 1)

    def test_pivots(self):
        self.faults(0, [with_inner(0, pivots=[pivot]) for pivot in (0, -1, END, END + 1, SIXTY)])
        self.faults(1, [with_inner(1, pivots=[pivot]) for pivot in (0, -1, 100, 101, END)])
        wrong = [[200, 200], [300, 200], [100, 200], [99, 200], [200, END], [200, END + 5]]
        self.faults(4, [with_inner(4, pivots=pivots) for pivots in wrong])
        self.fault(with_inner(4, pivots=[101, 300]), None)

    def test_too_many_notes(self):
        tray = [put(20, 10, 1), put(20, 11, 1), put(20, 12, 1), put(20, 13, 1)]
        self.fault(with_inner(0, tray=tray), 0)
        self.fault(with_inner(0, tray=tray[:3]), None)
        self.fault(with_inner(4, tray=[put(3, 160 + key, 1) for key in range(4)]), 4)
        self.fault(with_inner(4, tray=[put(3, 160 + key, 1) for key in range(3)]), None)

    def test_a_note_outside_of_the_stretch(self):
        self.faults(1, [with_inner(1, tray=[note]) for note in (put(3, 100, 1), wipe(3, 99, 101), wipe(3, 0, END))])
        self.faults(4, [with_inner(4, tray=[note]) for note in (put(3, 99, 1), wipe(3, 99, 101), wipe(3, 0, END))])
        self.fault(with_inner(1, tray=[wipe(18, 60, 100)]), None)
        self.fault(with_inner(4, tray=[put(3, 100, 1)]), None)

    def test_a_number_above_last(self):
        self.fault(with_inner(0, tray=[put(21, 10, 1)]), 0)
        self.fault(with_inner(0, tray=[put(20, 10, 1), put(SIXTY, 11, 1)]), 0)
        self.fault(with_inner(4, tray=[put(21, 160, 1)]), 4)
        self.fault(with_inner(0, tray=[put(20, 10, 1)]), None)

    def test_two_that_share_a_key(self):
        wrong = [[put(9, 160, 1), put(9, 160, 2)], [put(9, 160, 1), add(8, 160, 2)], [up(9, 150, 170, 1), put(7, 169, 2)]]
        wrong += [[put(9, 160, 1), put(3, 170, 1), wipe(9, 150, 161)]]
        self.faults(4, [with_inner(4, tray=tray) for tray in wrong])
        self.fault(with_inner(4, tray=[put(9, 160, 1), put(3, 170, 1), wipe(9, 150, 160)]), None)
        self.fault(with_inner(0, tray=[put(20, 10, 1), put(20, 10, 1)]), 0)

    def test_a_note_in_a_room_above(self):
        notes = [put(18, 10, 3), put(19, 10, 3), put(19, 60, 3), wipe(7, 15, 25)]
        self.faults(1, [with_inner(1, tray=[note]) for note in notes])
        self.fault(with_inner(1, tray=[wipe(19, 40, 60)]), 1)
        self.faults(4, [with_inner(4, tray=[note]) for note in (put(19, 100, 3), put(20, 149, 3), wipe(19, 100, END))])
        self.fault(with_inner(4, tray=[put(20, 150, 3)]), None)

    def test_two_rooms_above(self):
        rooms = [("inner", 0, [], [1], [put(9, 5, 1)]), ("inner", 1, [], [2], [])]
        rooms += [("inner", 2, [], [3], [put(9, 5, 1)]), leaf(3)]
        self.fault((RULE, 9, [], 4, rooms), 2)
        rooms[2] = ("inner", 2, [], [3], [put(8, 5, 1), put(9, 6, 1)])
        self.fault((RULE, 9, [], 4, rooms), None)


class ThirdDash(Case):
    def test_too_many_rows(self):
        for place, low in [(2, 20), (3, 50), (6, 250), (7, 400)]:
            rows = [(low + key, [(0, 1)]) for key in range(4)]
            self.fault(with_thing(place, 2, rows), place)
            self.fault(with_thing(place, 2, rows[:3]), None)
        self.fault((RULE, 1, [], 1, [leaf(0, *[(key, [(0, 1)]) for key in range(4)])]), 0)

    def test_a_key_outside_of_the_stretch(self):
        for place, low, high in [(2, 0, 50), (3, 50, 100), (5, 100, 200), (6, 200, 300), (7, 300, END)]:
            for key in (low - 1, high):
                self.fault(with_thing(place, 2, [(key, [(0, 1)])]), place)
            for key in (low, high - 1):
                self.fault(with_thing(place, 2, [(key, [(0, 1)])]), None)
        self.fault(with_thing(3, 2, [(60, [(0, 1)]), (100, [(0, 1)])]), 3)

    def test_a_version_above_last(self):
        for place, key in [(2, 30), (5, 160), (6, 250), (7, END - 1)]:
            self.fault(with_thing(place, 2, [(key, [(0, 1), (21, 2)])]), place)
            self.fault(with_thing(place, 2, [(key, [(SIXTY, 2)])]), place)
            self.fault(with_thing(place, 2, [(key, [(0, 1), (20, 2)])]), None)
        self.fault((RULE, 0, [], 1, [leaf(0, (5, [(1, 1)]))]), 0)

    def test_a_note_above_that_touches_the_key(self):
        rows = [(2, 10, 17), (2, 20, 6), (2, 40, 18), (3, 60, 18), (3, 99, 18), (5, 149, 19)]
        for place, key, number in rows:
            self.fault(with_thing(place, 2, [(key, [(0, 1), (number, 2)])]), place)
            self.fault(with_thing(place, 2, [(key, [(0, 1), (number + 1, 2)])]), place)
            self.fault(with_thing(place, 2, [(key, [(0, 1), (number - 1, 2)])]), None)
        self.fault(with_thing(2, 2, [(5, [(0, 1)]), (10, [(16, 1), (17, 1), (18, 1)])]), 2)

    def test_another_number_of_rooms_above(self):
        rooms = some_image()[4]
        self.fault(with_rooms(rooms[:4] + [leaf(4)]), 4)
        self.fault(with_rooms(rooms[:7] + [("inner", 9, [], [8], []), leaf(8)]), 8)
        first = [("inner", 0, [100], [1, 4], []), leaf(1)]
        self.fault(with_rooms(first + rooms[4:]), 3)
        deep = [rooms[0], rooms[1], ("inner", 2, [], [8], []), leaf(8)]
        self.fault(with_rooms(deep + rooms[3:]), 4)


class SeveralFaults(Case):
    def test_the_first_one_is_told(self):
        spoilt = {
            0: ("inner", 0, [100], [1, 4], [put(21, 10, 1)]), 1: ("inner", 1, [100], [2, 3], []), 2: leaf(2, (50, [(0, 1)])),
            3: leaf(3, (60, [])), 4: None, 5: ("leaf", 6, []), 6: ("leaf", 5, ()), 7: leaf(9, (1, [(0, 1)])),
        }
        for one in spoilt:
            self.fault(with_room(one, spoilt[one]), one)
            for other in spoilt:
                rooms = some_image()[4]
                rooms[one], rooms[other] = spoilt[one], spoilt[other]
                self.fault(with_rooms(rooms), min(one, other))
                self.fault(with_rooms(rooms[:-1]), min(one, other) if min(one, other) < 7 else 7)
                self.fault(with_rooms(rooms + [leaf(8)]), min(one, other))


def told_by(image, key, at=None):
    """What an image tells for a key, by nothing but its tuples."""
    rooms = {room[1]: room for room in image[4]}
    way = [image[4][0]]
    while way[-1][0] == "inner":
        word, number, pivots, children, tray = way[-1]
        way.append(rooms[children[sum(pivot <= key for pivot in pivots)]])
    versions = dict(way.pop()[2]).get(key, [])
    value = ([None] + [value for number, value in versions if at is None or number <= at])[-1]
    for room in reversed(way):
        for number, low, high, (there, none) in room[4]:
            if low <= key < high and (at is None or number <= at):
                word, *n = there if value is not None else none
                value = {"gone": lambda: None, "is": lambda: n[0], "plus": lambda: value + n[0]}[word]()
    return value


def plain_of(image, keys):
    """A plain map that goes on from an image of which these are all keys that have a value."""
    plain = PlainMap()
    plain.last = image[1]
    sights = {at: {key: told_by(image, key, at) for key in keys} for at in image[2] + [None]}
    sights = {at: {key: value for key, value in sight.items() if value is not None} for at, sight in sights.items()}
    plain.now = sights.pop(None)
    plain.kept = sights
    return plain


class AnyImage:
    """Makes images without fault, their notes and versions lying anyhow."""

    def __init__(self, chance, rule, floors, keys):
        self.chance, self.rule, self.floors, self.keys = chance, rule, floors, keys
        self.rooms = []
        self.numbers = chance.sample(range(400), 150)

    def action(self, wide):
        n = self.chance.randint(-3, 3)
        there = self.chance.choice([("plus", n), ("is", n), ("gone",), ("gone",)])
        return (there, ("gone",) if wide or there == ("gone",) else self.chance.choice([("is", n), ("gone",)]))

    def note(self, floor, low, high):
        number = self.chance.randint(floor * 8 + 1, floor * 8 + 8)
        inside = [key for key in self.keys if low <= key < high]
        if inside and self.chance.random() < 0.6:
            key = self.chance.choice(inside)
            return (number, key, key + 1, self.action(False))
        first, end = sorted([self.chance.choice([low, self.chance.randrange(low, high)]), high])
        return (number, first, end, self.action(True))

    def tray(self, floor, low, high):
        notes = [self.note(floor, low, high) for turn in range(self.chance.randint(0, self.rule[0]))]
        told = []
        for note in sorted(notes, key=lambda note: note[0]):
            if all(other[0] < note[0] or other[2] <= note[1] or note[2] <= other[1] for other in told):
                told.append(note)
        return told

    def leaf(self, number, low, high):
        inside = [key for key in self.keys if low <= key < high]
        keys = sorted(self.chance.sample(inside, min(len(inside), self.chance.randint(0, self.rule[2]))))
        rows = []
        for key in keys:
            numbers = sorted(self.chance.sample(range(9), self.chance.randint(1, 3)))
            rows.append((key, [(one, self.chance.choice([None, 1, 2, -5])) for one in numbers]))
        self.rooms.append(("leaf", number, rows))

    def room(self, floor, low, high):
        number = self.numbers.pop()
        if floor == 0:
            self.leaf(number, low, high)
            return number
        places = [key for key in self.keys if low < key < high]
        pivots = sorted(self.chance.sample(places, min(len(places), self.chance.randint(0, self.rule[1] - 1))))
        at = len(self.rooms)
        self.rooms.append(None)
        edges = [low] + pivots + [high]
        children = [self.room(floor - 1, first, end) for first, end in zip(edges, edges[1:])]
        self.rooms[at] = ("inner", number, pivots, children, self.tray(floor, low, high))
        return number

    def image(self):
        self.room(self.floors, 0, END)
        last = self.floors * 8 + 8 + self.chance.randint(0, 3)
        marks = sorted(self.chance.sample(range(1, last + 1), self.chance.randint(0, 4)))
        return (self.rule, last, marks, 400, self.rooms)


class GoingOn(unittest.TestCase):
    KEYS = list(range(0, 80, 4)) + [END - 1]

    def reads_as(self, store, plain):
        self.assertEqual((store.last, store.marks(), len(store)), (plain.last, plain.marks(), len(plain.now)))
        for at in plain.marks() + [None]:
            self.assertEqual(store.stretch(at=at), plain.sight(at))
            for key in self.KEYS:
                self.assertEqual(store.read(key, at=at), dict(plain.sight(at)).get(key))

    def work(self, chance, store):
        inners = [room for room in store.image()[4] if room[0] == "inner"]
        turn = chance.randrange(10)
        if turn == 0:
            store.squeeze()
        elif turn < 4:
            store.press(*sorted(chance.sample(self.KEYS + [END], 2)))
        elif inners:
            room = chance.choice(inners)
            store.pour(room[1], chance.choice(room[3]))

    def test_images_lying_anyhow(self):
        chance = random.Random(82)
        for turn in range(150):
            sizes = [chance.choice([1, 2, 4, 9]), chance.choice([3, 4]), chance.choice([1, 2, 4])]
            rule = (*sizes, chance.choice(["fullest", "eldest"]))
            image = AnyImage(chance, rule, chance.randint(0, 3), self.KEYS).image()
            check_image(self, image)
            self.assertIsNone(image_fault(image))
            kept = copy.deepcopy(image)
            store = store_of(image)
            self.assertEqual((store.image(), store.steps(), store.rule), (kept, [], rule))
            plain = plain_of(image, self.KEYS)
            self.reads_as(store, plain)
            for deed in range(25):
                if chance.random() < 0.4:
                    self.work(chance, store)
                    self.assertIsNone(image_fault(store.image()))
                    self.reads_as(store, plain)
                deed = some_deed(chance, self.KEYS, plain.marks())
                self.assertEqual(store.do(deed), plain.do(deed))
                self.assertIsNone(image_fault(store.image()))
            check_image(self, store.image())
            self.reads_as(store, plain)
            self.assertEqual(image, kept)

    def test_a_store_goes_on_as_the_one_that_told_the_image(self):
        chance = random.Random(83)
        for rule in ((1, 3, 1, "fullest"), (4, 3, 2, "eldest"), (9, 5, 4, "fullest")):
            store = Store(rule)
            for turn in range(120):
                if turn % 10 == 9:
                    other = store_of(store.image())
                    self.assertEqual((other.image(), other.steps()), (store.image(), []))
                    deeds = [some_deed(chance, self.KEYS, []) for deed in range(9)]
                    for twin in (other, store):
                        for deed in deeds:
                            twin.do(deed)
                        twin.press(10, 30)
                    self.assertEqual((other.image(), other.steps()), (store.image(), store.steps()))
                store.do(some_deed(chance, self.KEYS, store.marks()))

    def test_written_out(self):
        store = store_of(some_image())
        self.assertEqual(store.stretch(), [(10, 1), (20, 8), (250, SIXTY), (300, 5), (END - 1, 3)])
        self.assertEqual(store.stretch(at=5), [(10, 1), (20, 5), (49, 4), (60, 2), (250, -4), (300, 0), (END - 1, 3)])
        self.assertEqual(store.stretch(at=12)[1:3], [(20, 8), (49, 4)])
        self.assertEqual(store.way(10), (1, [(0, [put(18, 10, 1)]), (1, [put(17, 10, 3)]), (2, [(0, 1), (16, None)])]))
        self.assertEqual(store.do(("put", 5, 1)), 21)
        self.assertEqual(store.steps()[1:], [("pour", 0, 1, 4), ("pour", 1, 2, 4), ("part", 2, [20], [10])])
        self.assertEqual(store.way(49, at=12), (4, [(0, []), (1, []), (10, [(0, 4), (13, None)])]))

    def test_the_next_new_room_has_the_number_fresh(self):
        store = store_of((RULE, 3, [], 70, [leaf(50, (1, [(0, 1)]), (2, [(0, 1)]), (3, [(0, 1)]))]))
        store.do(("put", 4, 1))
        self.assertEqual(store.steps()[1:], [("top", 70), ("part", 50, [3], [71])])

    def test_a_top_room_that_does_nothing_goes_with_the_next_deed(self):
        image = (RULE, 3, [], 3, [("inner", 0, [], [1], []), ("inner", 1, [], [2], []), leaf(2, (5, [(0, 1)]))])
        store = store_of(image)
        store.do(("mark",))
        self.assertEqual(len(store.image()[4]), 3)
        store.press(7, 8)
        self.assertEqual(store.steps(), [("low", 0), ("low", 1)])

    def test_bare_rooms_stay_till_they_are_poured_into(self):
        rooms = [("inner", 0, [10, 20], [1, 2, 3], []), leaf(1), leaf(2), leaf(3)]
        store = store_of((RULE, 3, [], 4, rooms))
        store.do(("put", 5, 1))
        self.assertEqual(len(store.image()[4]), 4)
        store.pour(0, 2)
        self.assertEqual(store.steps(), [("pour", 0, 2, 0), ("out", 0, 2)])
        store.pour(0, 1)
        self.assertEqual(store.image()[4], [("inner", 0, [20], [1, 3], []), leaf(1, (5, [(0, 1)])), leaf(3)])

    def test_the_image_may_be_changed_behind_the_call(self):
        image = some_image()
        store = store_of(image)
        kept = store.image()
        for room in image[4]:
            for things in room[2:]:
                if room[0] == "leaf":
                    for key, versions in things:
                        versions.append("more")
                things.append("more")
        image[2].append("more")
        image[4].clear()
        self.assertEqual(store.image(), kept)
        self.assertEqual(kept, some_image())

    def test_the_store_changes_no_image(self):
        image = some_image()
        store = store_of(image)
        for key in range(0, 300, 7):
            store.do(("put", key, 1))
        store.do(("forget", 5))
        store.squeeze()
        self.assertEqual(image, some_image())

    def test_by_name(self):
        self.assertIsNone(image_fault(image=some_image()))
        self.assertEqual(store_of(image=some_image()).image(), some_image())


if __name__ == "__main__":
    unittest.main()
