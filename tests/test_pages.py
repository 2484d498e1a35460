import copy
import random
import unittest

from notefall.errors import NoPage
from notefall.pages import body_of, head_text, page_of, read_head, read_room, room_text
from notefall.store import Store
from notefall.wholes import END
from things import OTHERS, add, level, put, some_deed, up, wipe

SIXTY = 10 ** 60 - 1
GREAT = 10 ** 60

# Rooms with their children's places, and their texts, reckoned by hand.
WRITTEN = [
    (("leaf", 3, [(7, [(0, 5)]), (9, [(2, None), (4, -1)])]), {}, "leaf 3 7=0:5;9=2:x,4:-1"),
    (
        ("inner", 0, [100], [1, 3], [add(4, 7, -5), wipe(6, 0, 200)]), {1: 2, 3: 5},
        "inner 0 100 1@2,3@5 4.7.8.+-5.=-5;6.0.200.x.x",
    ),
    (("leaf", 0, []), {}, "leaf 0 -"),
    (("leaf", 12, [(0, [(0, 0)])]), {}, "leaf 12 0=0:0"),
    (("leaf", 1, [(END - 1, [(0, -SIXTY), (SIXTY, SIXTY)])]), {}, f"leaf 1 999999999999=0:-{SIXTY},{SIXTY}:{SIXTY}"),
    (("leaf", SIXTY, [(5, [(3, None)])]), {}, f"leaf {SIXTY} 5=3:x"),
    (("inner", 7, [], [0], []), {0: 0}, "inner 7 - 0@0 -"),
    (("inner", 7, [], [SIXTY], []), {SIXTY: SIXTY}, f"inner 7 - {SIXTY}@{SIXTY} -"),
    (("inner", 8, [5, 9, 11], [4, 0, 2, 1], [put(1, 5, 0)]), {0: 3, 1: 9, 2: 3, 4: 7},
     "inner 8 5,9,11 4@7,0@3,2@3,1@9 1.5.6.=0.=0"),
    (("inner", 8, [-3, 0, END, GREAT - 1], [4, 0, 2, 1, 3], []), {0: 3, 1: 9, 2: 3, 4: 7, 3: 2},
     f"inner 8 -3,0,1000000000000,{SIXTY} 4@7,0@3,2@3,1@9,3@2 -"),
    (("inner", 0, [], [1], [up(3, 0, END, SIXTY), level(2, 4, 9, -1), (1, 8, 9, (("gone",), ("is", 4)))]), {1: 2},
     f"inner 0 - 1@2 3.0.1000000000000.+{SIXTY}.x;2.4.9.=-1.x;1.8.9.x.=4"),
    (("inner", 0, [], [1], [(SIXTY, 8, 9, (("plus", -SIXTY), ("is", -SIXTY)))]), {1: 2},
     f"inner 0 - 1@2 {SIXTY}.8.9.+-{SIXTY}.=-{SIXTY}"),
    # Whether its things fit one another isn't looked at.
    (("inner", 0, [7], [0, 5], [put(9, 3, 1), put(2, 3, 1), put(2, 3, 1)]), {0: 1, 5: 1},
     "inner 0 7 0@1,5@1 9.3.4.=1.=1;2.3.4.=1.=1;2.3.4.=1.=1"),
    (("inner", 0, [100, 7], [1, 3, 4], []), {1: 2, 3: 5, 4: 6}, "inner 0 100,7 1@2,3@5,4@6 -"),
    (("inner", 3, [7, 7], [3, 1, 4], [put(2, 7, 1)]), {1: 2, 3: 5, 4: 6}, "inner 3 7,7 3@5,1@2,4@6 2.7.8.=1.=1"),
    (("inner", 2, [SIXTY, 0, 0, -5, -SIXTY], [9, 8, 7, 0, 2, 1], []), {9: 4, 8: 4, 7: 0, 0: 12, 2: 1, 1: 3},
     f"inner 2 {SIXTY},0,0,-5,-{SIXTY} 9@4,8@4,7@0,0@12,2@1,1@3 -"),
]

HEADS = [
    ((0, 0, 1, 2, (4, 3, 8, "fullest"), []), "head 0 0 1 2 4,3,8,fullest -"),
    ((7, 20, 30, 4, (64, 16, 64, "eldest"), [5]), "head 7 20 30 4 64,16,64,eldest 5"),
    ((1, 2, 0, 0, (1, 3, 1, "eldest"), [1, 7, SIXTY]), f"head 1 2 0 0 1,3,1,eldest 1,7,{SIXTY}"),
    ((SIXTY, SIXTY, SIXTY, SIXTY, (1, 3, 1, "fullest"), []), f"head {SIXTY} {SIXTY} {SIXTY} {SIXTY} 1,3,1,fullest -"),
]


class Case(unittest.TestCase):
    def refused(self, read, texts):
        for text in texts:
            with self.subTest(text), self.assertRaises(NoPage):
                read(text)

    def refused_things(self, read):
        for at, thing in enumerate(OTHERS):
            with self.subTest(at=at), self.assertRaises(NoPage):
                read(thing)

    def spoilt(self, text):
        """Texts that differ from it by one sign."""
        signs = " -,;:=.@+x0159a\n\t%"
        for at in range(len(text) + 1):
            for sign in signs:
                yield text[:at] + sign + text[at:]
                yield text[:at] + sign + text[at + 1:]
            yield text[:at] + text[at + 1:]

    def exact(self, read, write, text):
        """A text that is read is just the one that is written of what was told."""
        for spoilt in self.spoilt(text):
            try:
                told = read(spoilt)
            except NoPage:
                continue
            self.assertEqual(write(told), spoilt)


class Rooms(Case):
    def test_written(self):
        for room, places, text in WRITTEN:
            with self.subTest(text):
                kept = copy.deepcopy((room, places))
                self.assertEqual(room_text(room, places), text)
                self.assertEqual((room, places), kept)
                self.assertEqual(room_text(places=places, room=room), text)

    def test_read(self):
        for room, places, text in WRITTEN:
            with self.subTest(text):
                self.assertEqual(read_room(text), (room, places))
                self.assertEqual(list(read_room(text)[1]), list(dict.fromkeys(room[3] if room[0] == "inner" else [])))
                self.assertEqual(read_room(text=text), (room, places))

    def test_more_places_than_are_needed(self):
        self.assertEqual(room_text(("inner", 7, [], [0], []), {0: 4, 9: 9}), "inner 7 - 0@4 -")

    def test_what_is_told_is_the_askers_own(self):
        for room, places, text in WRITTEN:
            told = read_room(text)
            for things in told[0][2:]:
                things.append("more")
            told[1]["more"] = 1
            self.assertEqual(read_room(text), (room, places))

    def test_what_is_no_text(self):
        self.refused_things(read_room)

    def test_words_and_blanks(self):
        self.refused(read_room, ["", " ", "leaf", "inner", "leaf 0", "leaf 0 ", "leaf  0 -", "leaf 0  -", " leaf 0 -"])
        self.refused(read_room, ["leaf 0 - ", "leaf 0 - -", "leaf 0 -\n", "\nleaf 0 -", "Leaf 0 -", "leaf 0 - 5", "leaf - 0"])
        self.refused(read_room, ["inner 0 -", "inner 0 - 1@2", "inner 0 - 1@2 - -", "inner 0 - 1@2 ", "inner 0  1@2 -"])
        self.refused(read_room, ["head 0 0 1 2 4,3,8,fullest -", "leaf 0 100 1@2,3@5 -", "inner 0 7=0:5", "leaves 0 -", "eaf 0 -"])

    def test_numbers(self):
        for number in ("00", "05", "-0", "+5", "5.0", "0x5", "1_0", "--5", "", "x", "-", str(GREAT), "\u0665", "5a", " 5"):
            self.refused(read_room, [f"leaf {number} -", f"leaf 1 {number}=0:5", f"leaf 1 7={number}:5", f"leaf 1 7=0:5,{number}:6"])
            self.refused(read_room, [f"inner {number} - 1@2 -", f"inner 0 - {number}@2 -", f"inner 0 - 1@{number} -"])
            self.refused(read_room, [f"inner 0 {number},500 1@2,3@5,4@6 -", f"inner 0 0,{number} 1@2,3@5,4@6 -"])
            self.refused(read_room, [f"inner 0 - 1@2 {number}.5.6.x.x", f"inner 0 - 1@2 3.{number}.6.x.x"])
            self.refused(read_room, [f"inner 0 - 1@2 3.5.{number}.x.x", f"inner 0 - 1@2 3.5.6.+{number}.x"])
            self.refused(read_room, [f"inner 0 - 1@2 3.5.6.x.={number}", f"inner 0 - 1@2 3.5.6.={number}.x"])
            if number != "x":
                self.refused(read_room, [f"leaf 1 7=0:{number}", f"leaf 1 7=0:1,2:{number}", f"inner 0 - 1@2 3.5.6.x.{number}"])

    def test_numbers_of_sixty_one_figures(self):
        for number in (str(GREAT), "-" + str(GREAT)):
            self.refused(read_room, [f"leaf 1 7=0:{number}", f"inner 0 {number} 1@2,3@4 -", f"inner 0 - 1@2 3.5.6.+{number}.x"])

    def test_numbers_below_the_least(self):
        self.refused(read_room, ["leaf -1 -", "leaf 1 -7=0:5", f"leaf 1 {END}=0:5", "leaf 1 7=-1:5", "inner -1 - 1@2 -"])
        self.refused(read_room, ["inner 0 - -1@2 -", "inner 0 - 1@-2 -", "inner 0 - 1@2 0.5.6.x.x", "inner 0 - 1@2 -1.5.6.x.x"])
        self.refused(read_room, ["inner 0 - 1@2 3.-5.6.x.x", f"inner 0 - 1@2 3.5.{END + 1}.x.x", "inner 0 - 1@2 3.6.6.x.x"])

    def test_rows(self):
        self.refused(read_room, ["leaf 3 9=0:5;7=0:5", "leaf 3 7=0:5;7=0:5", "leaf 3 7=2:5,1:6", "leaf 3 7=2:5,2:6"])
        self.refused(read_room, ["leaf 3 7", "leaf 3 7=", "leaf 3 7=0", "leaf 3 7=0:", "leaf 3 =0:5", "leaf 3 7=:5", "leaf 3 7:0=5"])
        self.refused(read_room, ["leaf 3 7=0:5;", "leaf 3 ;7=0:5", "leaf 3 7=0:5;;9=0:5", "leaf 3 7=0:5,", "leaf 3 7=,0:5"])
        self.refused(read_room, ["leaf 3 7=0:5,,1:5", "leaf 3 7=-", "leaf 3 7=0:-", "leaf 3 -;7=0:5", "leaf 3 7=0:5;-", "leaf 3 --"])
        self.refused(read_room, ["leaf 3 7=0:5=6", "leaf 3 7=0:5:6", "leaf 3 7=0:X", "leaf 3 7=0:None", "leaf 3 7=x:5", "leaf 3 x=0:5"])
        self.refused(read_room, ["leaf 3 7=0:5 9=0:5", "leaf 3 7=0:5,9=0:5", "leaf 3 7=0.5", "leaf 3 x", "leaf 3 7=0:xx"])

    def test_pivots_and_children(self):
        self.refused(read_room, ["inner 0 7 1@2,1@5 -", "inner 0 7 1@2,1@2 -", "inner 0 9,7 1@2,3@5 -", "inner 0 7,7 1@2,3@5,3@6 -"])
        self.refused(read_room, ["inner 0 7 1@2 -", "inner 0 - 1@2,3@5 -", "inner 0 7,9 1@2,3@5 -", "inner 0 - - -", "inner 0 7 - -"])
        self.refused(read_room, ["inner 0 7, 1@2,3@5 -", "inner 0 ,7 1@2,3@5 -", "inner 0 7,,9 1@2,3@5,4@6 -", "inner 0 7;9 1@2,3@5,4@6 -"])
        self.refused(read_room, ["inner 0 7 1@2;3@5 -", "inner 0 7 1@2,3@5, -", "inner 0 7 ,1@2,3@5 -", "inner 0 7 1@2,,3@5 -"])
        self.refused(read_room, ["inner 0 7 1@2,3 -", "inner 0 7 1,3 -", "inner 0 7 1@2@3,3@5 -", "inner 0 7 @2,3@5 -", "inner 0 7 1@,3@5 -"])
        self.refused(read_room, ["inner 0 7 1@2,- -", "inner 0 -,7 1@2,3@4 -", "inner 0 7 1@x,3@4 -", "inner 0 x 1@2,3@4 -", "inner 0 7 1:2,3:4 -"])

    def test_notes(self):
        for note in (
            "3.5.6.x", "3.5.6.x.x.x", "3.5.x.x", "3.5.6", "3", "3.5.6..", "3.5.6.x.", "3.5.6.+.x", "3.5.6.=.x", "3.5.6.5.x",
            "3.5.6.+5.+5", "3.5.6.x.+5", "3.5.6.x.5", "3.5.6.xx.x", "3.5.6.x.xx", "3.5.6.X.x", "3.5.7.x.=5", "3.5.7.=5.=5",
            "3.7.6.x.x", "3.5.6.+x.x", "3.5.6.=x.x", "3.5.6.+5.=x", "3.5.6.++5.x", "3.5.6.-5.x", "3.5.6.==5.x", "3,5,6,x,x",
            "3.5.6.x.x;", ";3.5.6.x.x", "3.5.6.x.x;;4.5.6.x.x", "3.5.6.x.x,4.5.6.x.x", "3.5.6.x.x;-", "-;3.5.6.x.x", "--", ".", "....",
        ):
            self.refused(read_room, [f"inner 0 - 1@2 {note}"])

    def test_just_what_is_written_is_read(self):
        for room, places, text in WRITTEN:
            if len(text) < 70:
                self.exact(read_room, lambda told: room_text(*told), text)

    def test_rooms_of_stores(self):
        chance = random.Random(91)
        keys = list(range(0, 60, 3)) + [END - 1]
        for rule in ((1, 3, 1, "fullest"), (9, 4, 3, "eldest")):
            store = Store(rule)
            for turn in range(80):
                store.do(some_deed(chance, keys, store.marks()))
                for room in store.image()[4]:
                    places = {child: chance.randrange(99) for child in (room[3] if room[0] == "inner" else [])}
                    self.assertEqual(read_room(room_text(room, places)), (room, places))


class Heads(Case):
    def test_written_and_read(self):
        for head, text in HEADS:
            with self.subTest(text):
                kept = copy.deepcopy(head)
                self.assertEqual(head_text(head), text)
                self.assertEqual(head_text(head=head), text)
                self.assertEqual(head, kept)
                self.assertEqual(read_head(text), head)
                self.assertEqual(read_head(text=text), head)
                self.assertIs(type(read_head(text)[5]), list)

    def test_what_is_told_is_the_askers_own(self):
        for head, text in HEADS:
            read_head(text)[5].append("more")
            self.assertEqual(read_head(text), head)

    def test_what_is_no_text(self):
        self.refused_things(read_head)

    def test_words_and_blanks(self):
        text = "head 7 20 30 4 64,16,64,eldest 5"
        self.refused(read_head, ["", "head", " " + text, text + " ", text + " 6", text + "\n", text.replace(" ", "  ", 1)])
        self.refused(read_head, [text.replace("head", "Head"), text.replace("head ", ""), text.replace(" 20", ""), text[:-2]])
        self.refused(read_head, ["leaf 0 -", text.replace("head", "inner"), text.replace(" ", ","), text.replace(",", " ")])

    def test_numbers(self):
        for number in ("00", "05", "-0", "-1", "+5", "5.0", "--5", "", "x", "-", str(GREAT), "\u0665", "1;2"):
            self.refused(read_head, [f"head {number} 20 30 4 6,5,4,eldest 5", f"head 7 {number} 30 4 6,5,4,eldest 5"])
            self.refused(read_head, [f"head 7 20 {number} 4 6,5,4,eldest 5", f"head 7 20 30 {number} 6,5,4,eldest 5"])
            self.refused(read_head, [f"head 7 20 30 4 {number},5,4,eldest 5", f"head 7 20 30 4 6,{number},4,eldest 5"])
            self.refused(read_head, [f"head 7 20 30 4 6,5,{number},eldest 5", f"head 7 20 30 4 6,5,4,eldest {number},5"])

    def test_rules(self):
        for rule in (
            "0,3,1,eldest", "65,3,1,eldest", "1,2,1,eldest", "1,17,1,eldest", "1,3,0,eldest", "1,3,65,eldest", "1,3,1,full",
            "1,3,1,", "1,3,1", "1,3,1,eldest,", "1,3,1,eldest,1", ",1,3,1,eldest", "eldest,1,3,1", "-", "", "1;3;1;eldest",
            "1,3,1,Eldest", "1,3,1,5",
        ):
            self.refused(read_head, [f"head 7 20 30 4 {rule} 5"])

    def test_marks(self):
        for marks in ("0", "-1", "5,5", "7,5", "5,", ",5", "5,,7", "5;7", "5,-", "-,5", "--", "", "x", "5,6,6", "0,5", "5,07"):
            self.refused(read_head, [f"head 7 20 30 4 6,5,4,eldest {marks}"])
        # Whether they fit the last number isn't looked at.
        self.assertEqual(read_head("head 7 20 30 4 6,5,4,eldest 1,21")[5], [1, 21])

    def test_just_what_is_written_is_read(self):
        for head, text in HEADS[:2]:
            self.exact(read_head, head_text, text)


class Pages(Case):
    BODIES = ["a", "leaf 0 -", "a b", " ", "\n", " a", "a ", "3 abc", "two\nlines\n", "123456789", "1234567890", "x" * 99, "x" * 100]

    def test_a_body_and_its_page(self):
        for body in self.BODIES:
            with self.subTest(body):
                self.assertEqual(page_of(body), f"{len(body)} {body}")
                self.assertEqual(body_of(page_of(body)), body)
        self.assertEqual(page_of("leaf 0 -"), "8 leaf 0 -")
        self.assertEqual((page_of(body="a b"), body_of(text="3 a b")), ("3 a b", "a b"))
        self.assertEqual((page_of(""), body_of("0 ")), ("0 ", ""))

    def test_no_page_cut_short_is_one(self):
        for body in self.BODIES:
            page = page_of(body)
            for signs in range(len(page)):
                self.assertIsNone(body_of(page[:signs]))

    def test_another_count(self):
        for text in ("2 a", "0 a", "1 ab", "01 a", "-1 a", "+1 a", "1  a", " 1 a", "1a", "a", "", " ", "1", "1 ", "x a", "1.0 a",
                     "\u0661 a", "\u00b2 ab", "1\na", "1_0 abcdefghij", "9 1234567890", "10 123456789", "-0 ", "00 "):
            with self.subTest(text):
                self.assertIsNone(body_of(text))

    def test_of_anything(self):
        for at, thing in enumerate(OTHERS + [b"1 a", ["1 a"], ("1 a",), 1]):
            with self.subTest(at=at):
                self.assertIsNone(body_of(thing))


if __name__ == "__main__":
    unittest.main()
