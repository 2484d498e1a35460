import unittest

from notefall.actions import is_action
from notefall.deeds import Add, Deed, Drop, Forget, Level, Mark, Put, Raise, Wipe, deed_of, read_words
from notefall.errors import NoDeed
from notefall.notes import is_note
from notefall.wholes import END
from things import OTHERS, Agreeing, Sore

MOST = 10 ** 30
SIXTY = 10 ** 60 - 1
GONE = ("gone",)

CLASSES = {
    "put": Put, "drop": Drop, "add": Add, "wipe": Wipe, "raise": Raise, "level": Level, "mark": Mark, "forget": Forget,
}
NAMES = {
    "put": ("key", "value"), "drop": ("key",), "add": ("key", "by"), "wipe": ("low", "high"),
    "raise": ("low", "high", "by"), "level": ("low", "high", "value"), "mark": (), "forget": ("mark",),
}
TOLD = [
    ("put", 5, 7), ("put", 0, 0), ("put", END - 1, MOST), ("put", 3, -MOST),
    ("drop", 5), ("drop", 0), ("drop", END - 1),
    ("add", 5, 7), ("add", 0, -MOST), ("add", END - 1, MOST), ("add", 1, 0),
    ("wipe", 2, 9), ("wipe", 0, END), ("wipe", 0, 1), ("wipe", END - 1, END),
    ("raise", 2, 9, 4), ("raise", 0, END, MOST), ("raise", 5, 6, -MOST), ("raise", 5, 6, 0),
    ("level", 2, 9, 4), ("level", 0, END, -MOST), ("level", 5, 6, MOST), ("level", 5, 6, 0),
    ("mark",), ("forget", 1), ("forget", 12), ("forget", SIXTY),
]

# For each kind of thing, what is none: one beyond its bounds, far beyond, and of other kinds.
WRONG = {
    "key": [-1, END, SIXTY, -SIXTY],
    "value": [MOST + 1, -MOST - 1, SIXTY, -SIXTY],
    "by": [MOST + 1, -MOST - 1, SIXTY, -SIXTY],
    "low": [-1, END, END + 1, SIXTY, -SIXTY],
    "high": [0, -1, END + 1, SIXTY, -SIXTY],
    "mark": [0, -1, -SIXTY],
}
GOOD = {"key": 5, "value": 7, "by": 7, "low": 2, "high": 9, "mark": 3}


def wrong_things():
    """Tuples of a word and as many things as go with it, one of them wrong."""
    told = []
    for word, names in NAMES.items():
        for place, name in enumerate(names):
            for thing in WRONG[name] + OTHERS:
                things = [GOOD[other] for other in names]
                things[place] = thing
                told.append((word, *things))
    for word, rest in [("wipe", ()), ("raise", (1,)), ("level", (1,))]:
        told += [(word, low, high, *rest) for low, high in [(5, 5), (6, 5), (0, 0), (END, END), (END, 0), (-2, -1)]]
    return told


class Deeds(unittest.TestCase):
    def test_of_its_tuple(self):
        for told in TOLD:
            with self.subTest(told):
                deed = deed_of(told)
                self.assertIsInstance(deed, CLASSES[told[0]])
                self.assertIsInstance(deed, Deed)
                self.assertEqual(deed.told(), told)
                self.assertIsInstance(deed.told(), tuple)

    def test_by_its_class(self):
        for word, *things in TOLD:
            with self.subTest((word, *things)):
                made = CLASSES[word](*things)
                named = CLASSES[word](**dict(zip(NAMES[word], things)))
                self.assertEqual(made.told(), (word, *things))
                self.assertEqual(named.told(), (word, *things))
                self.assertEqual(made, named)
                self.assertIsInstance(made, Deed)

    def test_partly_by_name(self):
        self.assertEqual(Put(5, value=7).told(), ("put", 5, 7))
        self.assertEqual(Raise(2, by=4, high=9).told(), ("raise", 2, 9, 4))
        self.assertEqual(Level(value=4, high=9, low=2).told(), ("level", 2, 9, 4))
        self.assertEqual(deed_of(told=("mark",)), Mark())

    def test_of_its_words(self):
        for told in TOLD:
            words = " ".join(str(thing) for thing in told)
            with self.subTest(words):
                deed = read_words(words)
                self.assertIsInstance(deed, CLASSES[told[0]])
                self.assertEqual(deed.told(), told)
                self.assertEqual(str(deed), words)
        self.assertEqual(read_words(text="drop 5").told(), ("drop", 5))

    def test_each_class_stands_under_deed_and_under_no_other(self):
        for word, made in CLASSES.items():
            with self.subTest(word):
                self.assertTrue(issubclass(made, Deed))
                others = [other for other in CLASSES.values() if other is not made]
                self.assertFalse(any(issubclass(made, other) for other in others))

    def test_words(self):
        self.assertEqual(str(Put(5, -7)), "put 5 -7")
        self.assertEqual(str(Drop(0)), "drop 0")
        self.assertEqual(str(Add(END - 1, MOST)), "add 999999999999 1" + "0" * 30)
        self.assertEqual(str(Wipe(0, END)), "wipe 0 1000000000000")
        self.assertEqual(str(Raise(2, 9, 0)), "raise 2 9 0")
        self.assertEqual(str(Level(2, 9, -MOST)), "level 2 9 -1" + "0" * 30)
        self.assertEqual(str(Mark()), "mark")
        self.assertEqual(str(Forget(12)), "forget 12")
        self.assertEqual(str(Forget(SIXTY)), "forget " + "9" * 60)


class Actions(unittest.TestCase):
    def test_actions(self):
        rows = [
            (Put(5, 7), (("is", 7), ("is", 7))), (Put(5, 0), (("is", 0), ("is", 0))),
            (Drop(5), (GONE, GONE)), (Wipe(2, 9), (GONE, GONE)),
            (Add(5, 7), (("plus", 7), ("is", 7))), (Add(5, -7), (("plus", -7), ("is", -7))),
            (Raise(2, 9, 4), (("plus", 4), GONE)), (Level(2, 9, 4), (("is", 4), GONE)),
            (Level(5, 6, -4), (("is", -4), GONE)), (Raise(5, 6, MOST), (("plus", MOST), GONE)),
        ]
        for deed, action in rows:
            with self.subTest(str(deed)):
                self.assertEqual(deed.action(), action)
                self.assertTrue(is_action(deed.action()))

    def test_notes(self):
        rows = [
            (Put(5, 7), (5, 6)), (Drop(0), (0, 1)), (Add(END - 1, 2), (END - 1, END)), (Wipe(2, 9), (2, 9)),
            (Wipe(0, END), (0, END)), (Raise(5, 6, 1), (5, 6)), (Raise(0, END, 1), (0, END)), (Level(2, 9, 4), (2, 9)),
        ]
        for deed, (low, high) in rows:
            for number in (1, 2, 300, SIXTY):
                with self.subTest(deed=str(deed), number=number):
                    self.assertEqual(deed.note(number), (number, low, high, deed.action()))
                    self.assertTrue(is_note(deed.note(number)))
                    self.assertEqual(deed.note(number=number), deed.note(number))

    def test_each_deed_of_a_key_or_stretch_has_a_note(self):
        for told in TOLD:
            with self.subTest(told):
                self.assertEqual(is_note(deed_of(told).note(3)), told[0] not in ("mark", "forget"))

    def test_none_for_mark_and_forget(self):
        for deed in (Mark(), Forget(1), Forget(SIXTY)):
            with self.subTest(str(deed)):
                self.assertIsNone(deed.action())
                self.assertIsNone(deed.note(1))
                self.assertIsNone(deed.note(SIXTY))


class Equal(unittest.TestCase):
    def test_where_their_tuples_are(self):
        for one in TOLD:
            for other in TOLD:
                with self.subTest(one=one, other=other):
                    self.assertIs(deed_of(one) == deed_of(other), one == other)
                    self.assertIs(deed_of(one) != deed_of(other), one != other)

    def test_alike_but_for_the_word(self):
        self.assertNotEqual(Put(5, 7), Add(5, 7))
        self.assertNotEqual(Raise(2, 9, 4), Level(2, 9, 4))
        self.assertNotEqual(Drop(5), Forget(5))
        self.assertNotEqual(Put(2, 9), Wipe(2, 9))

    def test_to_nothing_else(self):
        for told in TOLD:
            deed = deed_of(told)
            for at, thing in enumerate(OTHERS + [told, list(told), str(deed), told[-1], deed.action()]):
                with self.subTest(told=told, at=at):
                    self.assertIs(deed == thing, False)
                    self.assertIs(deed != thing, True)


class NoDeeds(unittest.TestCase):
    def refused(self, things, make):
        for at, thing in enumerate(things):
            with self.subTest(at=at), self.assertRaises(NoDeed):
                make(thing)

    def test_a_thing_of_the_wrong_kind_or_beyond_its_bounds(self):
        self.refused(wrong_things(), deed_of)
        self.refused(wrong_things(), lambda told: CLASSES[told[0]](*told[1:]))
        self.refused(wrong_things(), lambda told: CLASSES[told[0]](**dict(zip(NAMES[told[0]], told[1:]))))

    def test_a_thing_more_or_fewer(self):
        for word, names in NAMES.items():
            things = tuple(GOOD[name] for name in names)
            more = [(word, *things, thing) for thing in OTHERS + [1, "", "mark", Sore(), Agreeing()]]
            fewer = [(word, *things[:many]) for many in range(len(things))]
            for make in (deed_of, lambda told: CLASSES[told[0]](*told[1:])):
                self.refused(more + fewer, make)
            self.refused([(word, *things, 1, 2), (word, *things, 1, 2, 3)], deed_of)

    def test_a_word_that_is_none(self):
        words = ["", "Put", "PUT", "MARK", "puts", "pu", "put ", " put", "set", "putdrop", "p", "0", "put\n"]
        for word in words + [None, True, 1, 0, b"put", ("put",), ["put"], Sore(), Agreeing()]:
            rows = [(word,), (word, 5), (word, 5, 7), (word, 2, 9, 4)]
            self.refused(rows, deed_of)

    def test_no_tuple(self):
        self.refused([list(told) for told in TOLD], deed_of)
        self.refused([" ".join(str(thing) for thing in told) for told in TOLD], deed_of)
        self.refused(["mark", b"mark", {"mark": 1}, {"mark"}, 5, (), ((),), (("mark",),), Mark(), Put(5, 7)], deed_of)
        self.refused(OTHERS, deed_of)

    def test_the_word_in_another_place(self):
        self.refused([(5, "put", 7), (5, 7, "put"), (1, "forget"), ("put", "put", 7)], deed_of)


class NoWords(unittest.TestCase):
    def refused(self, texts):
        for at, text in enumerate(texts):
            with self.subTest(at=at), self.assertRaises(NoDeed):
                read_words(text)

    def test_blanks(self):
        for told in TOLD:
            words = " ".join(str(thing) for thing in told)
            self.refused([words + " ", " " + words, words + "\n", "\n" + words, words + "\t", words + "\r"])
            if " " in words:
                between = ["  ", "", "\n", "\t", ",", ";", " \n", "\n ", "-", "_", "\u00a0"]
                self.refused([words.replace(" ", other) for other in between])
                self.refused([words.replace(" ", other, 1) for other in between])

    def test_another_order(self):
        self.refused(["5 put 7", "5 7 put", "5 drop", "12 forget", "wipe 9 2", "2 wipe 9", "raise 9 2 4", "level 9 2 4"])

    def test_numbers(self):
        for number in ("05", "+5", "-0", "00", "5.0", "0x5", "5e1", "1_0", "--5", "", "five", "True", "None", "x", "-", "+"):
            self.refused([f"put 5 {number}", f"put {number} 5", f"drop {number}", f"add 5 {number}", f"forget {number}"])
            self.refused([f"wipe {number} 9", f"wipe 0 {number}", f"raise {number} 9 1", f"raise 0 {number} 1"])
            self.refused([f"raise 2 9 {number}", f"level 2 9 {number}"])

    def test_other_figures(self):
        self.refused(["drop \u0665", "drop \uff15", "put 5 \u00b2", "put 5 \u22125"])

    def test_sixty_one_figures(self):
        self.assertEqual(read_words("forget " + "1" * 60).told(), ("forget", int("1" * 60)))
        self.refused(["forget " + "1" * 61, "forget 1" + "0" * 60, "put 5 " + "1" * 61, "drop " + "0" * 61])
        self.refused(["put 5 -" + "1" * 61, "forget " + "9" * 5000])

    def test_beyond_the_bounds(self):
        self.refused([f"drop {END}", "drop -1", f"put {END} 1", f"put 5 {MOST + 1}", f"put 5 {-MOST - 1}"])
        self.refused([f"wipe 0 {END + 1}", "wipe 5 5", "wipe -1 5", "forget 0", "forget -1", f"raise 2 9 {MOST + 1}"])
        self.refused([f"add 5 {MOST + 1}", f"level 2 9 {-MOST - 1}", "level 9 9 1"])

    def test_things_more_or_fewer(self):
        self.refused(["put", "put 5", "put 5 7 1", "drop", "drop 5 7", "add 5", "add 5 7 7", "wipe 2", "wipe 2 9 4"])
        self.refused(["raise 2 9", "raise 2 9 4 4", "level 2 9", "level 2 9 4 4", "mark 1", "forget", "forget 1 2"])
        self.refused(["mark mark", "put put 5 7", "mark\nmark"])

    def test_words_that_are_none(self):
        self.refused(["", " ", "\n", "Mark", "MARK", "marks", "mar", "Put 5 7", "set 5 7", "5", "5 7", "('mark',)", "-"])

    def test_no_text(self):
        self.refused(OTHERS + [b"mark", ["mark"], ("mark",), {"mark": 1}, Mark(), 5, -5, SIXTY])


if __name__ == "__main__":
    unittest.main()
