import copy
import inspect
import unittest

from notefall.errors import Busy, FallError, NoDeed, NoKey, NoMany, NoMark, NoRoom, NoRule, NoStretch
from notefall.store import Store
from notefall.wholes import END
from things import OTHERS, add, put, up, wipe

RULE = (2, 3, 2, "eldest")
SIXTY = 10 ** 60 - 1
NO_KEYS = [-1, END, SIXTY, -SIXTY] + OTHERS
NO_STRETCHES = [(0, 0), (5, 4), (-1, 5), (0, END + 1), (True, 5), (0, True), (END, END)]
NO_STRETCHES += [(thing, 9) for thing in OTHERS] + [(0, thing) for thing in OTHERS]
# The kept marks of the store below are 4 and 8.
NO_MARKS = [0, 1, 3, 5, 7, 9, -4, SIXTY, 4.0, "4", [4], (4,)] + [thing for thing in OTHERS if thing is not None]
NO_MANY = [-1, -SIXTY, 3.0, "3", [3]] + [thing for thing in OTHERS if thing is not None]
DEEDS = [
    ("put", 10, 1), ("put", 20, 2), ("add", 70, 7), ("mark",), ("put", 60, 6), ("drop", 70), ("raise", 0, 65, 10),
    ("mark",), ("mark",), ("put", 150, 0), ("wipe", 60, 61), ("level", 15, 30, 5), ("put", END - 1, 9), ("forget", 9),
    ("add", 150, 3), ("put", 70, -2),
]
SIGHTS = {
    4: [(10, 1), (20, 2), (70, 7)],
    8: [(10, 11), (20, 12), (60, 16)],
    None: [(10, 11), (20, 5), (70, -2), (150, 3), (END - 1, 9)],
}


def some_store(rule=RULE):
    store = Store(rule)
    for deed in DEEDS:
        store.do(deed)
    return store


class Case(unittest.TestCase):
    def setUp(self):
        self.store = some_store()
        self.stand = self.standing()

    def standing(self, store=None):
        store = store or self.store
        return copy.deepcopy((store.last, store.marks(), store.image(), store.steps()))

    def refused(self, error, ask):
        with self.assertRaises(error):
            ask()
        self.assertEqual(self.standing(), self.stand)

    def refused_marks(self, ask):
        for at, mark in enumerate(NO_MARKS):
            with self.subTest(at=at):
                self.refused(NoMark, lambda: ask(mark))


class Making(unittest.TestCase):
    def test_a_new_store(self):
        for rule in ((1, 3, 1, "fullest"), (64, 16, 64, "eldest"), (4, 5, 6, "eldest")):
            for store in (Store(rule), Store(rule=rule)):
                self.assertEqual((store.rule, store.last, store.marks(), store.steps()), (rule, 0, [], []))
                self.assertEqual(store.image(), (rule, 0, [], 1, [("leaf", 0, [])]))
                self.assertEqual((len(store), store.stretch(), store.read(0)), (0, [], None))

    def test_refused(self):
        rules = [(0, 3, 1, "fullest"), (65, 3, 1, "fullest"), (1, 2, 1, "fullest"), (1, 17, 1, "fullest")]
        rules += [(1, 3, 0, "fullest"), (1, 3, 65, "fullest"), (1, 3, 1, "full"), (1, 3, 1, ""), (1, 3, 1, None)]
        rules += [(True, 3, 1, "fullest"), (1, 3, True, "eldest"), [1, 3, 1, "fullest"], (1, 3, 1), (1, 3, 1, "eldest", 1)]
        rules += [("1", 3, 1, "eldest"), (1.0, 3, 1, "eldest"), (1, 3, 1, ["eldest"]), ((1, 3, 1, "eldest"),)]
        for at, rule in enumerate(rules + OTHERS):
            with self.subTest(at=at), self.assertRaises(NoRule):
                Store(rule)

    def test_the_interface(self):
        told = {
            "do": "(self, told)", "marks": "(self)", "read": "(self, key, *, at=None)",
            "stretch": f"(self, low=0, high={END}, *, at=None, most=None, back=False)",
            "above": "(self, key, *, at=None)", "below": "(self, key, *, at=None)",
            "many": "(self, low, high, *, at=None)", "total": "(self, low, high, *, at=None)",
            "unlike": "(self, one, other)", "way": "(self, key, *, at=None)", "pour": "(self, room, child)",
            "press": "(self, low, high)", "squeeze": "(self)", "each": f"(self, tell, low=0, high={END})",
            "steps": "(self)", "twin": "(self)", "image": "(self)", "__init__": "(self, rule)",
        }
        for name, form in told.items():
            with self.subTest(name):
                self.assertEqual(str(inspect.signature(getattr(Store, name))), form)

    def test_each_thing_may_be_handed_in_by_its_name(self):
        store = some_store((2, 3, 1, "eldest"))
        self.assertEqual(store.do(told=("put", 11, 4)), 17)
        self.assertEqual(store.read(key=11, at=None), 4)
        self.assertEqual(store.stretch(high=15, low=10, back=True, most=1), [(11, 4)])
        self.assertEqual((store.above(key=10), store.below(key=12)), (11, 11))
        self.assertEqual((store.many(high=12, low=10), store.total(high=12, low=10)), (2, 15))
        self.assertEqual(store.unlike(other=None, one=4)[1], (11, None, 4))
        self.assertEqual(store.way(key=11)[0], 4)
        top = store.image()[4][0]
        store.pour(child=top[3][0], room=top[1])
        store.press(high=12, low=11)
        self.assertEqual(store.each(high=12, low=11, tell=lambda key, value: None), 1)


class Doing(Case):
    def test_numbers(self):
        store = Store(RULE)
        for number, deed in enumerate(DEEDS, start=1):
            self.assertEqual(store.last, number - 1)
            self.assertEqual(store.do(deed), number)
            self.assertEqual(store.last, number)

    def test_marks(self):
        store = Store(RULE)
        told = []
        for deed in DEEDS + [("forget", 4), ("mark",), ("forget", 18), ("forget", 8)]:
            store.do(deed)
            told.append(store.marks())
        kept = [[]] * 3 + [[4]] * 4 + [[4, 8]] + [[4, 8, 9]] * 5 + [[4, 8]] * 3 + [[8], [8, 18], [8], []]
        self.assertEqual(told, kept)

    def test_a_mark_of_nothing(self):
        store = Store(RULE)
        self.assertEqual(store.do(("mark",)), 1)
        store.do(("put", 5, 1))
        self.assertEqual((store.stretch(at=1), store.stretch()), ([], [(5, 1)]))
        self.assertEqual(store.image()[4], [("leaf", 0, [(5, [(2, 1)])])])

    def test_values_of_the_greatest_and_the_least_size(self):
        store = Store(RULE)
        for sign in (1, -1):
            store.do(("put", 0, sign * 10 ** 30))
            store.do(("raise", 0, END, sign * 10 ** 30))
            store.do(("add", 0, sign * 10 ** 30))
            self.assertEqual(store.read(0), sign * 3 * 10 ** 30)

    def test_what_is_no_deed(self):
        things = [("put", 5), ("put", 5, 1, 1), ("put", -1, 1), ("put", END, 1), ("put", 5, 10 ** 30 + 1), ("drop",)]
        things += [("put", True, 1), ("put", 5, True), ("put", 5, None), ("add", 5, "1"), ("wipe", 5, 5), ("wipe", 5)]
        things += [("raise", 5, 9), ("raise", 0, END + 1, 1), ("level", 0, 5, None), ("mark", 1), ("forget",), ("Mark",)]
        things += [("forget", 0), ("forget", -4), ("forget", True), ("forget", None), ("forget", "4"), ["mark"], "mark"]
        for at, told in enumerate(things + OTHERS):
            with self.subTest(at=at):
                self.refused(NoDeed, lambda: self.store.do(told))

    def test_a_forget_of_no_kept_mark(self):
        for mark in (1, 3, 5, 7, 9, 14, 16, 17, SIXTY):
            with self.subTest(mark):
                self.refused(NoMark, lambda: self.store.do(("forget", mark)))

    def test_the_number_goes_on_behind_a_refusal(self):
        self.refused(NoDeed, lambda: self.store.do(("put", 5)))
        self.assertEqual(self.store.do(("put", 5, 1)), 17)

    def test_forgotten_marks_are_swept_with_the_next_pouring(self):
        store = Store((4, 3, 4, "fullest"))
        for deed in (("put", 5, 1), ("mark",), ("put", 5, 2), ("forget", 2)):
            store.do(deed)
        self.assertEqual(store.image()[4], [("leaf", 0, [(5, [(0, 1), (3, 2)])])])
        store.do(("put", 6, 1))
        self.assertEqual(store.image()[4], [("leaf", 0, [(5, [(0, 2)]), (6, [(0, 1)])])])


class Reading(Case):
    RULES = [(1, 3, 1, "fullest"), (1, 3, 1, "eldest"), (3, 3, 2, "fullest"), (64, 16, 64, "eldest"), (2, 16, 1, "eldest")]

    def each_sight(self):
        for rule in self.RULES:
            for at, sight in SIGHTS.items():
                yield some_store(rule), at, sight

    def test_read_and_way(self):
        for store, at, sight in self.each_sight():
            for key in (0, 9, 10, 11, 20, 60, 70, 100, 150, END - 2, END - 1):
                self.assertEqual(store.read(key, at=at), dict(sight).get(key))
                self.assertEqual(store.way(key, at=at)[0], dict(sight).get(key))

    def test_stretch(self):
        for store, at, sight in self.each_sight():
            self.assertEqual(store.stretch(at=at), sight)
            self.assertEqual(store.stretch(at=at, back=True), sight[::-1])
            self.assertEqual(store.stretch(20, at=at), sight[1:])
            self.assertEqual(store.stretch(0, 20, at=at), sight[:1])
            self.assertEqual(store.stretch(at=at, most=2), sight[:2])
            self.assertEqual(store.stretch(at=at, most=2, back=True), sight[::-1][:2])
            self.assertEqual(store.stretch(at=at, most=0), [])
            self.assertEqual(store.stretch(11, END, at=at, most=SIXTY), sight[1:])

    def test_many_and_total(self):
        for store, at, sight in self.each_sight():
            for low, high in ((0, END), (10, 11), (11, 70), (0, 71), (END - 1, END)):
                values = [value for key, value in sight if low <= key < high]
                self.assertEqual(store.many(low, high, at=at), len(values))
                self.assertEqual(store.total(low, high, at=at), sum(values))

    def test_above_and_below(self):
        for store, at, sight in self.each_sight():
            keys = [key for key, value in sight]
            for key in (0, 9, 10, 11, 20, 60, 70, 150, END - 2, END - 1):
                self.assertEqual(store.above(key, at=at), min([one for one in keys if one > key], default=None))
                self.assertEqual(store.below(key, at=at), max([one for one in keys if one < key], default=None))

    def test_unlike(self):
        for store, at, sight in self.each_sight():
            for other, right in SIGHTS.items():
                keys = sorted(dict(sight + right))
                rows = [(key, dict(sight).get(key), dict(right).get(key)) for key in keys]
                self.assertEqual(store.unlike(at, other), [row for row in rows if row[1] != row[2]])

    def test_len(self):
        for rule in self.RULES:
            store = Store(rule)
            self.assertEqual(len(store), 0)
            told = []
            for deed in DEEDS:
                store.do(deed)
                told.append(len(store))
            self.assertEqual(told, [1, 2, 3, 3, 4, 3, 3, 3, 3, 4, 3, 3, 4, 4, 4, 5])
            store.do(("put", 0, 1))
            self.assertEqual(len(store), 6)

    def test_way(self):
        store = Store((2, 3, 1, "eldest"))
        for deed in (("put", 5, 1), ("mark",), ("put", 8, 2), ("raise", 0, 9, 3), ("add", 8, 4)):
            store.do(deed)
        notes = [up(4, 0, 9, 3), add(5, 8, 4)]
        self.assertEqual(store.way(8), (9, [(1, notes), (2, [(3, 2)])]))
        self.assertEqual(store.way(8, at=2), (None, [(1, []), (2, [(3, 2)])]))
        self.assertEqual(store.way(5), (4, [(1, notes[:1]), (0, [(0, 1)])]))
        self.assertEqual(store.way(20), (None, [(1, []), (2, [])]))


class Refusals(Case):
    def test_keys(self):
        for at, key in enumerate(NO_KEYS):
            for ask in (self.store.read, self.store.above, self.store.below, self.store.way):
                with self.subTest(at=at, ask=ask.__name__):
                    self.refused(NoKey, lambda: ask(key))
                    self.refused(NoKey, lambda: ask(key, at=5))

    def test_stretches(self):
        for at, (low, high) in enumerate(NO_STRETCHES):
            for ask in (self.store.stretch, self.store.many, self.store.total):
                with self.subTest(at=at, ask=ask.__name__):
                    self.refused(NoStretch, lambda: ask(low, high))
                    self.refused(NoStretch, lambda: ask(low, high, at=5))
            with self.subTest(at=at):
                self.refused(NoStretch, lambda: self.store.each(lambda key, value: None, low, high))
                self.refused(NoStretch, lambda: self.store.press(low, high))
                self.refused(NoStretch, lambda: self.store.stretch(low, high, at=5, most=-1))

    def test_marks(self):
        for ask in (self.store.read, self.store.above, self.store.below, self.store.way):
            self.refused_marks(lambda mark: ask(10, at=mark))
        for ask in (self.store.stretch, self.store.many, self.store.total):
            self.refused_marks(lambda mark: ask(0, END, at=mark))
        self.refused_marks(lambda mark: self.store.stretch(at=mark, most=-1))
        for pair in ((None, 0), (4, 0), (0, 4), (0, None), (0, 0)):
            self.refused_marks(lambda mark: self.store.unlike(*[mark if thing == 0 else thing for thing in pair]))

    def test_a_truth_is_no_mark(self):
        store = Store(RULE)
        store.do(("mark",))
        self.assertIsNone(store.read(5, at=1))
        for ask in (lambda: store.read(5, at=True), lambda: store.stretch(at=True), lambda: store.unlike(True, 1)):
            with self.assertRaises(NoMark):
                ask()

    def test_how_many(self):
        for at, most in enumerate(NO_MANY):
            with self.subTest(at=at):
                self.refused(NoMany, lambda: self.store.stretch(most=most))

    def test_rooms(self):
        roll = self.store.image()[4]
        inners = {room[1]: room[3] for room in roll if room[0] == "inner"}
        numbers = [room[1] for room in roll] + [-1, 99, SIXTY]
        pairs = [(room, child) for room in numbers for child in numbers if child not in inners.get(room, [])]
        top = roll[0]
        pairs += [(thing, top[3][0]) for thing in OTHERS] + [(top[1], thing) for thing in OTHERS]
        for at, (room, child) in enumerate(pairs):
            with self.subTest(at=at):
                self.refused(NoRoom, lambda: self.store.pour(room, child))


class Works(Case):
    def test_all_three_tell_none(self):
        top = self.store.image()[4][0]
        self.assertIsNone(self.store.pour(top[1], top[3][0]))
        self.assertIsNone(self.store.press(0, END))
        self.assertIsNone(self.store.squeeze())

    def test_nothing_that_is_read_changes(self):
        for work in (lambda: self.store.press(5, 15), lambda: self.store.press(0, END), self.store.squeeze):
            work()
            for at, sight in SIGHTS.items():
                self.assertEqual(self.store.stretch(at=at), sight)
            self.assertEqual((self.store.last, self.store.marks()), (16, [4, 8]))

    def test_behind_a_press_no_note_is_left(self):
        self.store.press(0, END)
        self.assertEqual([room[4] for room in self.store.image()[4] if room[0] == "inner" and room[4]], [])

    def test_behind_a_squeeze(self):
        self.store.squeeze()
        rows = [
            (10, [(0, 1), (5, 11)]), (20, [(0, 2), (5, 12), (9, 5)]), (60, [(5, 16), (9, None)]),
            (70, [(0, 7), (5, None), (9, -2)]), (150, [(9, 3)]), (END - 1, [(9, 9)]),
        ]
        leaves = [("leaf", 1, rows[:2]), ("leaf", 2, rows[2:4]), ("leaf", 3, rows[4:])]
        self.assertEqual(self.store.image(), (RULE, 16, [4, 8], 4, [("inner", 0, [60, 150], [1, 2, 3], [])] + leaves))
        self.assertEqual(self.store.steps(), [("squeeze",)])
        self.store.do(("forget", 4))
        self.store.do(("forget", 8))
        self.store.squeeze()
        rows = [(key, [(0, value)]) for key, value in SIGHTS[None]]
        leaves = [("leaf", 1, rows[:2]), ("leaf", 2, rows[2:4]), ("leaf", 3, rows[4:])]
        self.assertEqual(self.store.image()[4], [("inner", 0, [70, END - 1], [1, 2, 3], [])] + leaves)

    def test_the_next_new_room_has_the_next_number(self):
        self.store.squeeze()
        for key in (61, 62):
            self.store.do(("put", key, 1))
        self.store.press(0, END)
        self.assertEqual(self.store.steps()[:2], [("pour", 0, 2, 2), ("part", 2, [62], [4])])


class Each(Case):
    def handed(self, *things):
        rows = []
        many = self.store.each(lambda key, value: rows.append((key, value)), *things)
        self.assertEqual(many, len(rows))
        return rows

    def test_what_is_handed_on(self):
        self.assertEqual(self.handed(), SIGHTS[None])
        self.assertEqual(self.handed(11), SIGHTS[None][1:])
        self.assertEqual(self.handed(11, 150), SIGHTS[None][1:3])
        self.assertEqual(self.handed(11, 20), [])
        self.assertEqual(Store(RULE).each(print), 0)
        self.assertEqual(self.standing(), self.stand)

    def test_what_tell_gives_back_does_not_count(self):
        self.assertEqual(self.store.each(lambda key, value: False), 5)

    def busy(self):
        top = self.store.image()[4][0]
        asks = [lambda: self.store.do(("put", 5, 1)), lambda: self.store.do(("mark",)), self.store.squeeze]
        asks += [lambda: self.store.pour(top[1], top[3][0]), lambda: self.store.press(0, END)]
        # Busy comes ahead of what else is to be refused.
        asks += [lambda: self.store.do(("put", 5)), lambda: self.store.do(("forget", 1)), lambda: self.store.do(None)]
        asks += [lambda: self.store.pour(-1, None), lambda: self.store.press(5, 5)]
        for at, ask in enumerate(asks):
            with self.subTest(at=at):
                self.refused(Busy, ask)

    def test_busy(self):
        self.assertEqual(self.store.each(lambda key, value: self.busy(), 0, 21), 2)
        self.assertEqual(self.standing(), self.stand)
        self.assertEqual(self.store.do(("put", 5, 1)), 17)

    def test_reading_within(self):
        def tell(key, value):
            self.assertEqual((self.store.read(key), self.store.stretch(), len(self.store)), (value, SIGHTS[None], 5))
            self.assertEqual((self.store.above(10), self.store.below(20), self.store.many(0, END)), (20, 10, 5))
            self.assertEqual(self.store.total(0, 30, at=4), 3)
            self.assertEqual((self.store.unlike(4, 4), self.store.way(key)[0]), ([], value))
            self.assertEqual(self.standing(), self.stand)
            with self.assertRaises(NoKey):
                self.store.read(-1)

        self.store.each(tell)

    def test_within_itself(self):
        rows = []

        def tell(key, value):
            self.assertEqual(self.store.each(lambda other, thing: rows.append((key, other)), 0, 21), 2)
            self.busy()

        self.assertEqual(self.store.each(tell, 0, 21), 2)
        self.assertEqual(rows, [(10, 10), (10, 20), (20, 10), (20, 20)])
        self.assertEqual(self.store.do(("put", 5, 1)), 17)

    def test_refused_within_itself(self):
        def tell(key, value):
            self.refused(NoStretch, lambda: self.store.each(tell, 5, 5))
            self.busy()

        self.store.each(tell, 10, 11)
        self.assertEqual(self.store.do(("put", 5, 1)), 17)

    def test_what_tell_raises_goes_on(self):
        seen = []
        for error in (KeyError("x"), FallError("y"), Busy("z"), KeyboardInterrupt()):
            def tell(key, value):
                seen.append(key)
                if key == 20:
                    raise error

            with self.assertRaises(type(error)) as caught:
                self.store.each(tell)
            self.assertIs(caught.exception, error)
            self.assertEqual(self.standing(), self.stand)
            self.assertEqual(seen, [10, 20])
            seen.clear()
        self.assertEqual(self.store.do(("put", 5, 1)), 17)

    def test_what_is_raised_within_itself(self):
        def inner(key, value):
            raise KeyError(key)

        def outer(key, value):
            with self.assertRaises(KeyError):
                self.store.each(inner)
            self.busy()

        self.store.each(outer, 10, 11)
        self.store.squeeze()

    def test_the_values_as_they_are_when_it_begins(self):
        rows = []

        def tell(key, value):
            rows.append((key, value))
            self.store.stretch().clear()

        self.store.each(tell)
        self.assertEqual(rows, SIGHTS[None])

    def test_a_twin_is_not_held(self):
        twins = []

        def tell(key, value):
            twin = self.store.twin()
            self.assertEqual(twin.do(("put", key, 99)), 17)
            twin.press(0, END)
            twin.squeeze()
            twins.append((key, twin.read(key)))
            self.busy()

        self.store.each(tell)
        self.assertEqual(twins, [(key, 99) for key, value in SIGHTS[None]])
        self.assertEqual(self.standing(), self.stand)

    def test_a_twin_does_not_hold(self):
        twin = self.store.twin()
        self.assertEqual(twin.each(lambda key, value: self.store.do(("put", key, 0))), 5)
        self.assertEqual(self.store.last, 21)


class Twin(Case):
    def test_it_stands_alike(self):
        for store in (self.store, Store(RULE), some_store((1, 3, 1, "fullest"))):
            twin = store.twin()
            self.assertIsNot(twin, store)
            self.assertIsInstance(twin, Store)
            self.assertEqual(self.standing(twin), self.standing(store))
            self.assertEqual(twin.rule, store.rule)

    def test_steps_with_lists(self):
        store = Store((4, 3, 1, "fullest"))
        store.do(("put", 5, 1))
        store.do(("put", 6, 1))
        twin = store.twin()
        self.assertEqual(twin.steps(), [("lay", put(2, 6, 1)), ("top", 1), ("part", 0, [6], [2])])

    def test_either_goes_its_own_way(self):
        for changed in (False, True):
            store = some_store()
            twin = store.twin()
            one, other = (twin, store) if changed else (store, twin)
            kept = self.standing(other)
            top = one.image()[4][0]
            one.pour(top[1], top[3][0])
            for deed in DEEDS:
                one.do(deed if deed[0] != "forget" else ("mark",))
            one.do(("wipe", 0, END))
            one.press(0, END)
            one.do(("forget", 4))
            one.squeeze()
            self.assertEqual(self.standing(other), kept)

    def test_the_same_deeds_do_the_same_to_both(self):
        twin = self.store.twin()
        for store in (self.store, twin):
            for deed in DEEDS[:8]:
                store.do(deed)
            store.press(5, 90)
        self.assertEqual(self.standing(twin), self.standing())


class AskersOwn(Case):
    def spoil(self, thing):
        """Changes each list in it, however deep."""
        if isinstance(thing, (list, tuple)):
            for part in thing:
                self.spoil(part)
        if isinstance(thing, list):
            thing.reverse()
            thing.append("more")

    def test_lists_that_were_told(self):
        for rule in (RULE, (1, 3, 1, "fullest"), (64, 16, 64, "fullest")):
            self.store = some_store(rule)
            self.stand = self.standing()
            for ask in (
                self.store.image, self.store.steps, self.store.marks, self.store.stretch, lambda: self.store.way(10),
                lambda: self.store.way(20, at=4), lambda: self.store.unlike(4, None), lambda: self.store.stretch(at=8),
            ):
                self.spoil(ask())
                self.assertEqual(self.standing(), self.stand)
                for at, sight in SIGHTS.items():
                    self.assertEqual(self.store.stretch(at=at), sight)

    def test_each_time_a_new_one(self):
        for ask in (self.store.image, self.store.steps, self.store.marks, self.store.stretch):
            one, other = ask(), ask()
            self.assertEqual(one, other)
            self.spoil(one)
            self.assertNotEqual(one, other)


class Image(Case):
    def test_of_one_leaf(self):
        store = Store((4, 3, 4, "fullest"))
        for deed in (("put", 7, 1), ("mark",), ("put", 5, 3), ("add", 7, 4)):
            store.do(deed)
        leaf = ("leaf", 0, [(5, [(3, 3)]), (7, [(0, 1), (3, 5)])])
        self.assertEqual(store.image(), ((4, 3, 4, "fullest"), 4, [2], 1, [leaf]))

    def test_of_two_floors(self):
        store = Store((4, 3, 1, "fullest"))
        for deed in (("put", 7, 1), ("put", 5, 3), ("wipe", 0, 6), ("add", 7, 4)):
            store.do(deed)
        rooms = [("inner", 1, [7], [0, 2], [wipe(3, 0, 6), add(4, 7, 4)])]
        rooms += [("leaf", 0, [(5, [(0, 3)])]), ("leaf", 2, [(7, [(0, 1)])])]
        self.assertEqual(store.image(), ((4, 3, 1, "fullest"), 4, [], 3, rooms))

    def test_each_child_with_all_beneath_it(self):
        store = Store((1, 3, 1, "eldest"))
        for key in range(10, 70, 10):
            store.do(("put", key, key))
        numbers = [(room[1], room[3] if room[0] == "inner" else None) for room in store.image()[4]]
        told = [(5, [1, 6, 9]), (1, [0, 2]), (0, None), (2, None), (6, [3, 4]), (3, None), (4, None)]
        self.assertEqual(numbers, told + [(9, [7, 8]), (7, None), (8, None)])
        self.assertEqual(store.image()[3], 10)


if __name__ == "__main__":
    unittest.main()
