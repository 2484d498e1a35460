"""The steps that a store tells: by hand-reckoned examples, and walked from the image ahead to the image behind."""

import random
import unittest

from notefall.errors import Busy, FallError
from notefall.leaves import halves, rows_behind
from notefall.store import Store
from notefall.trays import laid, poured
from notefall.wholes import END
from things import add, level, put, some_deed, up, wipe

CLEAR = (("gone",), ("gone",))


class Walk:
    """Rooms by their numbers, changed by nothing but steps."""

    def __init__(self, case, image, marks):
        self.case = case
        self.rule, self.last, marks_ahead, self.fresh, rooms = image
        self.marks = marks
        self.rooms = {room[1]: list(room) for room in rooms}
        self.top = rooms[0][1]
        # How often each note that was laid for one key was moved, and how often it may be.
        self.moves = {}
        self.bounds = {}

    def stretch(self, number):
        waiting = [(self.top, 0, END)]
        for room, low, high in waiting:
            if room == number:
                return (low, high)
            if self.rooms[room][0] == "inner":
                edges = [low] + self.rooms[room][2] + [high]
                waiting += zip(self.rooms[room][3], edges, edges[1:])
        self.case.fail(f"there is no room {number}")

    def above(self, number):
        [room] = [room for room in self.rooms.values() if room[0] == "inner" and number in room[3]]
        return room

    def height(self):
        room = self.rooms[self.top]
        many = 1
        while room[0] == "inner":
            room = self.rooms[room[3][0]]
            many += 1
        return many

    def lay_in(self, number, notes):
        room = self.rooms[number]
        if room[0] == "leaf":
            room[2] = rows_behind(room[2], notes, self.marks)
        else:
            for note in notes:
                room[4] = laid(room[4], note, self.marks)

    def lay(self, note):
        self.case.assertEqual(note[0], self.last + 1)
        if note[2] - note[1] == 1:
            self.bounds[note[0]] = self.height() - 1
        self.lay_in(self.top, [note])

    def pour(self, number, child, many):
        room = self.rooms[number]
        self.case.assertIn(child, room[3])
        parts, room[4] = poured(room[4], *self.stretch(child))
        self.case.assertEqual(len(parts), many)
        for note in parts:
            self.moves[note[0]] = self.moves.get(note[0], 0) + 1
        self.lay_in(child, parts)

    def take_out(self, room, child):
        at = room[3].index(child)
        self.case.assertGreater(len(room[3]), 1)
        del room[3][at]
        del room[2][max(at - 1, 0)]
        self.forget(child)

    def forget(self, number):
        room = self.rooms.pop(number)
        for child in room[3] if room[0] == "inner" else []:
            self.forget(child)

    def clear(self, number, child):
        room = self.rooms[number]
        low, high = self.stretch(child)
        wipes = [at for at, note in enumerate(room[4]) if note[1] <= low and high <= note[2] and note[3] == CLEAR]
        last = max(at for at in wipes if all(mark >= room[4][at][0] for mark in self.marks))
        room[4] = poured(room[4][:last + 1], low, high)[1] + room[4][last + 1:]
        self.take_out(room, child)

    def bare(self, number):
        room = self.rooms[number]
        if room[0] == "leaf":
            return room[2] == []
        return room[4] == [] and len(room[3]) == 1 and self.bare(room[3][0])

    def out(self, number, child):
        self.case.assertTrue(self.bare(child))
        self.take_out(self.rooms[number], child)

    def part(self, number, pivots, numbers):
        self.case.assertEqual(numbers, list(range(self.fresh, self.fresh + len(numbers))))
        self.fresh += len(numbers)
        room, above = self.rooms[number], self.above(number)
        low, high = self.stretch(number)
        edges = [low] + pivots + [high]
        things = room[2] if room[0] == "leaf" else room[3]
        parts = halves(things, self.rule[2] if room[0] == "leaf" else self.rule[1])
        self.case.assertEqual(len(parts), len(numbers) + 1)
        self.case.assertGreater(len(parts), 1)
        for name, things, first, end in zip([number] + numbers, parts, edges, edges[1:]):
            if room[0] == "leaf":
                self.rooms[name] = ["leaf", name, things]
            else:
                inside = [pivot for pivot in room[2] if first < pivot < end]
                self.case.assertEqual(len(inside) + 1, len(things))
                self.rooms[name] = ["inner", name, inside, things, poured(room[4], first, end)[0]]
        if room[0] == "leaf":
            self.case.assertEqual(pivots, [part[0][0] for part in parts[1:]])
        at = above[3].index(number)
        above[3][at + 1:at + 1] = numbers
        above[2][at:at] = pivots

    def put_on(self, number):
        self.case.assertEqual(number, self.fresh)
        self.fresh += 1
        self.rooms[number] = ["inner", number, [], [self.top], []]
        self.top = number

    def low(self, number):
        self.case.assertEqual(number, self.top)
        self.case.assertEqual(self.rooms[number][4], [])
        [self.top] = self.rooms.pop(number)[3]

    def go(self, steps):
        doors = {"lay": self.lay, "pour": self.pour, "clear": self.clear, "out": self.out, "part": self.part}
        doors |= {"top": self.put_on, "low": self.low}
        for word, *things in steps:
            doors[word](*things)

    def roll(self):
        told = []
        waiting = [self.top]
        while waiting:
            room = self.rooms[waiting.pop(0)]
            told.append(tuple(room))
            if room[0] == "inner":
                waiting = room[3] + waiting
        return told


def deeds_of(store, *deeds):
    for deed in deeds:
        store.do(deed)
    return store


class Told(unittest.TestCase):
    def test_ahead_of_any(self):
        self.assertEqual(Store((4, 3, 4, "fullest")).steps(), [])

    def test_a_laying_alone(self):
        store = Store((4, 3, 4, "fullest"))
        for deed, note in [
            (("put", 5, 7), put(1, 5, 7)), (("add", 5, -2), add(2, 5, -2)), (("raise", 0, 9, 3), up(3, 0, 9, 3)),
            (("level", 4, 9, 3), level(4, 4, 9, 3)), (("wipe", 0, END), wipe(5, 0, END)), (("drop", 5), wipe(6, 5, 6)),
        ]:
            store.do(deed)
            self.assertEqual(store.steps(), [("lay", note)])

    def test_the_deeds_own_note_though_it_joins_another(self):
        store = deeds_of(Store((4, 3, 1, "fullest")), ("put", 5, 7), ("put", 6, 7), ("put", 9, 1))
        store.do(("add", 9, 4))
        self.assertEqual(store.steps(), [("lay", add(4, 9, 4))])
        self.assertEqual(store.way(9)[1][0], (1, [put(4, 9, 5)]))

    def test_a_new_top_room_ahead_of_the_parting(self):
        store = deeds_of(Store((4, 3, 2, "fullest")), ("put", 5, 7), ("put", 6, 7), ("put", 9, 1))
        self.assertEqual(store.steps(), [("lay", put(3, 9, 1)), ("top", 1), ("part", 0, [9], [2])])

    def test_a_pouring_and_a_parting_of_a_leaf(self):
        store = deeds_of(Store((1, 3, 1, "eldest")), ("put", 5, 7), ("put", 8, 7), ("put", 9, 1), ("put", 4, 1))
        self.assertEqual(store.steps(), [("lay", put(4, 4, 1)), ("pour", 1, 2, 1), ("part", 2, [9], [3])])

    def test_a_pouring_through_two_floors_and_a_parting_of_an_inner_room(self):
        store = Store((1, 3, 1, "eldest"))
        told = []
        for key in range(10, 70, 10):
            store.do(("put", key, key))
            told.append(store.steps()[1:])
        self.assertEqual(told[:3], [[], [("top", 1), ("part", 0, [20], [2])], []])
        parted = [("pour", 1, 2, 2), ("part", 2, [30, 40], [3, 4]), ("top", 5), ("part", 1, [30], [6])]
        self.assertEqual(told[3:5], [parted, []])
        pours = [("pour", 5, 6, 2), ("pour", 6, 4, 2)]
        self.assertEqual(told[5], pours + [("part", 4, [50, 60], [7, 8]), ("part", 6, [50], [9])])

    def test_a_clearing_and_a_top_room_that_goes(self):
        store = deeds_of(Store((1, 3, 1, "eldest")), ("put", 5, 7), ("put", 8, 7), ("wipe", 0, END), ("put", 3, 1))
        # Behind the clearing the tray still has two notes, and the top room one child.
        self.assertEqual(store.steps(), [("lay", put(4, 3, 1)), ("clear", 1, 0), ("pour", 1, 2, 2), ("low", 1)])
        store.do(("put", 4, 1))
        self.assertEqual(store.steps(), [("lay", put(5, 4, 1)), ("top", 3), ("part", 2, [4], [4])])
        store.do(("wipe", 0, END))
        store.pour(3, 2)
        self.assertEqual(store.steps(), [("clear", 3, 2)])
        store.pour(3, 4)
        self.assertEqual(store.steps(), [("pour", 3, 4, 1), ("low", 3)])

    def test_a_bare_one_goes(self):
        store = deeds_of(Store((1, 3, 1, "eldest")), ("put", 5, 7), ("put", 8, 7), ("drop", 5), ("put", 9, 1))
        self.assertEqual(store.steps(), [("lay", put(4, 9, 1)), ("pour", 1, 0, 1), ("out", 1, 0)])

    def test_a_press_and_a_squeeze(self):
        store = deeds_of(Store((4, 3, 1, "eldest")), ("put", 5, 7), ("put", 8, 7), ("put", 6, 7), ("put", 9, 7))
        store.press(9, 10)
        self.assertEqual(store.steps(), [("pour", 1, 2, 1), ("part", 2, [9], [3])])
        store.press(9, 10)
        self.assertEqual(store.steps(), [])
        store.squeeze()
        self.assertEqual(store.steps(), [("squeeze",)])

    def test_behind_a_mark_and_a_forget(self):
        store = deeds_of(Store((4, 3, 4, "fullest")), ("put", 5, 7), ("mark",))
        self.assertEqual(store.steps(), [])
        deeds_of(store, ("put", 5, 8), ("forget", 2))
        self.assertEqual(store.steps(), [])

    def test_behind_what_was_refused(self):
        store = deeds_of(Store((4, 3, 2, "fullest")), ("put", 5, 7), ("put", 6, 7), ("put", 9, 1))
        kept = store.steps()
        asks = [lambda: store.do(("put", 5)), lambda: store.do(("forget", 1)), lambda: store.pour(0, 1)]
        asks += [lambda: store.press(5, 5), lambda: store.read(-1), lambda: store.each(print, 5, 5)]
        for ask in asks:
            with self.assertRaises(FallError):
                ask()
            self.assertEqual(store.steps(), kept)

        def tell(key, value):
            for ask in (lambda: store.do(("mark",)), lambda: store.pour(1, 0), lambda: store.press(0, 1), store.squeeze):
                with self.assertRaises(Busy):
                    ask()
                self.assertEqual(store.steps(), kept)

        self.assertEqual(store.each(tell), 3)

    def test_reading_leaves_them(self):
        store = deeds_of(Store((4, 3, 2, "fullest")), ("put", 5, 7), ("put", 6, 7), ("put", 9, 1))
        kept = store.steps()
        store.read(5), store.stretch(), store.above(5), store.below(5), store.many(0, 9), store.total(0, 9), len(store)
        store.unlike(None, None), store.way(5), store.image(), store.marks(), store.twin(), store.each(lambda key, value: 1)
        self.assertEqual(store.steps(), kept)

    def test_what_is_told_is_the_askers_own(self):
        store = deeds_of(Store((4, 3, 2, "fullest")), ("put", 5, 7), ("put", 6, 7), ("put", 9, 1))
        kept = store.steps()
        told = store.steps()
        told[2][2].append("more")
        told[2][3].append("more")
        told.append("more")
        self.assertEqual(store.steps(), kept)


class Walked(unittest.TestCase):
    RULES = [(tray, fan, rows, plan) for tray, fan, rows in ((1, 3, 1), (2, 3, 2), (5, 4, 3), (9, 3, 1), (64, 16, 64))
             for plan in ("fullest", "eldest")]

    def work(self, chance, store, keys):
        """One deed or work that isn't a squeeze."""
        inners = [room for room in store.image()[4] if room[0] == "inner"]
        turn = chance.random()
        if turn < 0.1 and inners:
            room = chance.choice(inners)
            store.pour(room[1], chance.choice(room[3]))
        elif turn < 0.13:
            store.press(*sorted(chance.sample(keys + [END], 2)))
        else:
            deed = some_deed(chance, keys, store.marks())
            store.do(deed)
            return deed[0]
        return "work"

    def run_of(self, chance, rule, keys, words):
        store = Store(rule)
        tray, fan, rows, plan = rule
        moves, bounds = {}, {}
        for turn in range(150):
            ahead = store.image()
            word = self.work(chance, store, keys)
            behind, steps = store.image(), store.steps()
            walk = Walk(self, ahead, ahead[2])
            walk.go(steps)
            self.assertEqual((walk.fresh, walk.roll()), behind[3:])
            self.assertEqual([step[0] for step in steps].count("lay"), word not in ("work", "mark", "forget"))
            for step in steps:
                words[step[0]] = words.get(step[0], 0) + 1
                if step[0] == "pour" and plan == "fullest" and word != "work":
                    self.assertGreaterEqual(step[3], (tray + fan) // fan)
            bounds |= walk.bounds
            for number, many in walk.moves.items():
                moves[number] = moves.get(number, 0) + many
        for number, bound in bounds.items():
            self.assertLessEqual(moves.get(number, 0), bound)

    def test_steps_lead_from_image_to_image(self):
        chance = random.Random(61)
        words = {}
        for rule in self.RULES:
            for keys in (list(range(0, 60, 3)), sorted(chance.sample(range(END), 25))):
                self.run_of(chance, rule, keys, words)
        self.assertEqual(sorted(words), ["clear", "lay", "low", "out", "part", "pour", "top"])

    def test_pressings_keep_to_their_stretch(self):
        chance = random.Random(62)
        for rule in self.RULES[:8]:
            store = Store(rule)
            keys = list(range(0, 90, 3))
            for turn in range(120):
                store.do(some_deed(chance, keys, store.marks()))
                if turn % 6 == 5:
                    low, high = sorted(chance.sample(keys + [END], 2))
                    ahead = store.image()
                    store.press(low, high)
                    self.check_press(Walk(self, ahead, ahead[2]), store.steps(), low, high)
                    trays = [room[4] for room in store.image()[4] if room[0] == "inner"]
                    self.assertFalse([note for tray in trays for note in tray if note[1] < high and low < note[2]])

    def check_press(self, walk, steps, low, high):
        """No room is poured from but one whose tray has a note of the stretch for that child, or too many."""
        for step in steps:
            if step[0] in ("pour", "clear"):
                tray = walk.rooms[step[1]][4]
                first, end = walk.stretch(step[2])
                due = [note for note in tray if max(low, first, note[1]) < min(high, end, note[2])]
                self.assertTrue(due or len(tray) > walk.rule[0])
            walk.go([step])


if __name__ == "__main__":
    unittest.main()
