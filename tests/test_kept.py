import random
import unittest

from notefall.errors import Busy, NoDeed, NoMark, NoRule, NoShelf, NotBare
from notefall.images import image_fault
from notefall.kept import Kept, begin, come_up
from notefall.pages import body_of, read_head
from notefall.shelf import Shelf
from notefall.store import Store
from notefall.wholes import END
from things import OTHERS, PlainMap, some_deed

RULE = (2, 3, 2, "eldest")


def page(place, body):
    return ("page", place, f"{len(body)} {body}")


def shelf_standing(shelf):
    return ({place: shelf.page(place) for place in shelf.places()}, shelf.journal(), shelf.log())


class Beginning(unittest.TestCase):
    def test_writes_in_their_order(self):
        shelf = Shelf()
        kept = begin(shelf, RULE)
        self.assertIsInstance(kept, Kept)
        self.assertIs(kept.shelf, shelf)
        self.assertIsInstance(kept.store, Store)
        self.assertEqual(kept.store.image(), Store(RULE).image())
        self.assertEqual(kept.store.steps(), [])
        self.assertEqual(shelf.log(), [page(2, "leaf 0 -"), page(0, "head 0 0 1 2 2,3,2,eldest -"), ("blot",)])
        self.assertEqual((shelf.places(), shelf.journal()), ([0, 2], ""))

    def test_by_name(self):
        kept = begin(rule=RULE, shelf=Shelf())
        self.assertEqual(kept.do(told=("put", 5, 1)), 1)
        self.assertEqual(come_up(shelf=kept.shelf).store.read(5), 1)

    def test_no_rule(self):
        shelf = Shelf()
        for at, rule in enumerate(OTHERS + [(2, 2, 2, "eldest"), list(RULE)]):
            with self.subTest(at=at), self.assertRaises(NoRule):
                begin(shelf, rule)
        self.assertEqual(shelf_standing(shelf), ({}, "", []))

    def test_not_bare(self):
        def with_page(place):
            shelf = Shelf()
            shelf.write(place, "x")
            return shelf

        journal, blotted = Shelf(), Shelf()
        journal.line("")
        blotted.line("x")
        blotted.blot()
        shelves = [with_page(0), with_page(1), with_page(2), with_page(10 ** 6), journal, journal.after(1, 0)]
        for at, shelf in enumerate(shelves):
            kept = shelf_standing(shelf)
            with self.subTest(at=at):
                with self.assertRaises(NotBare):
                    begin(shelf, RULE)
                # Of the two refusals that are due the one told first comes.
                with self.assertRaises(NoRule):
                    begin(shelf, None)
                self.assertEqual(shelf_standing(shelf), kept)
        begin(blotted, RULE)
        with self.assertRaises(NotBare):
            begin(blotted, RULE)

    def test_no_shelf_ahead_of_the_whole_head(self):
        shelf = Shelf()
        with self.assertRaises(NoShelf):
            come_up(shelf)
        self.assertEqual(shelf_standing(shelf), ({}, "", []))
        begin(shelf, RULE)
        for many in (0, 1):
            for signs in range(len(shelf.log()[many][2])):
                cut = shelf.after(many, signs)
                kept = shelf_standing(cut)
                with self.subTest(many=many, signs=signs), self.assertRaises(NoShelf):
                    come_up(cut)
                self.assertEqual(shelf_standing(cut), kept)
        for many in (2, 3):
            self.assertEqual(come_up(shelf.after(many, 0)).store.image(), Store(RULE).image())


class Doing(unittest.TestCase):
    def setUp(self):
        self.kept = begin(Shelf(), RULE)

    def test_one_line_for_each_deed(self):
        deeds = [
            ("put", 5, 7), ("add", 5, -3), ("drop", 6), ("mark",), ("raise", 0, END, 10 ** 30), ("level", 3, 9, -1),
            ("forget", 4), ("wipe", 0, 9),
        ]
        words = ["put 5 7", "add 5 -3", "drop 6", "mark", f"raise 0 {END} {10 ** 30}", "level 3 9 -1", "forget 4", "wipe 0 9"]
        ahead = self.kept.shelf.log()
        for number, deed in enumerate(deeds, start=1):
            self.assertEqual(self.kept.do(deed), number)
            lines = [f"{at} {text}" for at, text in enumerate(words[:number], start=1)]
            self.assertEqual(self.kept.shelf.log(), ahead + [("line", line) for line in lines])
            self.assertEqual(self.kept.shelf.journal(), "".join(line + "\n" for line in lines))
            self.assertEqual(self.kept.store.last, number)

    def test_it_does_what_the_store_does(self):
        chance = random.Random(95)
        store = Store(RULE)
        for turn in range(60):
            deed = some_deed(chance, list(range(0, 60, 3)), store.marks())
            self.assertEqual(self.kept.do(deed), store.do(deed))
            self.assertEqual((self.kept.store.image(), self.kept.store.steps()), (store.image(), store.steps()))

    def refused(self, error, told):
        kept = (shelf_standing(self.kept.shelf), self.kept.store.image(), self.kept.store.steps())
        with self.assertRaises(error):
            self.kept.do(told)
        self.assertEqual((shelf_standing(self.kept.shelf), self.kept.store.image(), self.kept.store.steps()), kept)

    def test_refused(self):
        self.kept.do(("mark",))
        self.kept.do(("put", 5, 1))
        for told in [("put", 5), ("put", 5, True), ("put", END, 1), ("forget", 0), ("mark", 1), ["mark"], "mark"] + OTHERS:
            self.refused(NoDeed, told)
        for mark in (2, 3, 99):
            self.refused(NoMark, ("forget", mark))
        self.kept.store.each(lambda key, value: [self.refused(Busy, told) for told in (("mark",), ("put", 5), ("forget", 2))])
        self.assertEqual(self.kept.do(("forget", 1)), 3)

    def test_the_line_stands_ahead_of_the_deed(self):
        seen = []

        class Watched(Shelf):
            def line(self, text):
                seen.append((text, kept.store.last))
                Shelf.line(self, text)

        kept = begin(Watched(), RULE)
        kept.do(("put", 5, 7))
        self.assertEqual(seen, [("1 put 5 7", 0)])


class Settling(unittest.TestCase):
    def setUp(self):
        self.shelf = Shelf()
        self.kept = begin(self.shelf, (2, 3, 1, "eldest"))

    def settled(self, told, *writes):
        """A settling tells these places and writes these pages, blotting last; the store stays."""
        ahead = len(self.shelf.log())
        stand = (self.kept.store.image(), self.kept.store.steps())
        self.assertEqual(self.kept.settle(), told)
        self.assertEqual(self.shelf.log()[ahead:], [page(place, body) for place, body in writes] + [("blot",)])
        self.assertEqual((self.kept.store.image(), self.kept.store.steps()), stand)
        self.assertEqual(self.shelf.journal(), "")

    def test_twice_in_a_row(self):
        self.settled([1], (1, "head 1 0 1 2 2,3,1,eldest -"))
        self.settled([0], (0, "head 2 0 1 2 2,3,1,eldest -"))
        self.settled([1], (1, "head 3 0 1 2 2,3,1,eldest -"))

    def test_places_reckoned_by_hand(self):
        self.kept.do(("put", 5, 7))
        self.settled([3, 1], (3, "leaf 0 5=0:7"), (1, "head 1 1 1 3 2,3,1,eldest -"))
        # The place 2 is free again, the place 3 is not: the room stands there by the last settling.
        self.kept.do(("put", 9, 1))
        self.settled([2, 4, 0], (2, "leaf 2 9=0:1"), (4, "inner 1 9 0@3,2@2 -"), (0, "head 2 2 3 4 2,3,1,eldest -"))
        self.kept.do(("mark",))
        self.kept.do(("add", 9, 4))
        text = "inner 1 9 0@3,2@2 4.9.10.+4.=4"
        self.settled([5, 1], (5, text), (1, "head 3 4 3 5 2,3,1,eldest 3"))
        self.settled([0], (0, "head 4 4 3 5 2,3,1,eldest 3"))
        # The right leaf, then the top room, whose body tells the new place; the left leaf stays.
        self.kept.store.pour(1, 2)
        self.settled([4, 6, 1], (4, "leaf 2 9=0:1,4:5"), (6, "inner 1 9 0@3,2@4 -"), (1, "head 5 4 3 6 2,3,1,eldest 3"))
        self.assertEqual(self.shelf.places(), [0, 1, 2, 3, 4, 5, 6])
        self.kept.do(("forget", 3))
        self.kept.do(("wipe", 0, END))
        self.kept.store.squeeze()
        self.assertEqual(self.kept.store.steps(), [("squeeze",)])
        self.settled([2, 0], (2, "leaf 0 -"), (0, "head 6 6 1 2 2,3,1,eldest -"))

    def test_from_the_last_room_back(self):
        for key in range(10, 50, 10):
            self.kept.do(("put", key, 1))
        self.kept.store.press(0, END)
        right = [(3, "leaf 4 40=0:1"), (4, "leaf 3 30=0:1"), (5, "inner 6 40 3@4,4@3 -")]
        left = [(6, "leaf 2 20=0:1"), (7, "leaf 0 10=0:1"), (8, "inner 1 20 0@7,2@6 -")]
        top = [(9, "inner 5 30 1@8,6@5 -"), (1, "head 1 4 7 9 2,3,1,eldest -")]
        self.settled([3, 4, 5, 6, 7, 8, 9, 1], *right, *left, *top)

    def test_a_room_is_written_anew_where_a_childs_place_is_another_one(self):
        for key in (10, 20, 30):
            self.kept.do(("put", key, 1))
        self.settled([3, 4, 5, 1], (3, "leaf 2 20=0:1"), (4, "leaf 0 10=0:1"), (5, "inner 1 20 0@4,2@3 3.30.31.=1.=1"),
                     (1, "head 1 3 3 5 2,3,1,eldest -"))
        self.kept.store.press(30, 31)
        self.settled([2, 6, 0], (2, "leaf 3 30=0:1"), (6, "inner 1 20,30 0@4,2@3,3@2 -"), (0, "head 2 3 4 6 2,3,1,eldest -"))
        # Behind the squeeze the leaf 2 has the very body that it had; the leaf 1 was an inner room.
        self.kept.do(("drop", 30))
        self.kept.store.squeeze()
        self.settled([5, 7, 1], (5, "leaf 1 10=0:1"), (7, "inner 0 20 1@5,2@3 -"), (1, "head 3 4 3 7 2,3,1,eldest -"))

    def test_a_settled_store_comes_up_with_all_rooms_standing(self):
        chance = random.Random(96)
        for turn in range(60):
            self.kept.do(some_deed(chance, list(range(0, 60, 3)), self.kept.store.marks()))
        self.kept.settle()
        self.assertEqual(self.kept.settle(), [self.shelf.log()[-2][1]])
        other = come_up(self.shelf.after(len(self.shelf.log()), 0))
        self.assertEqual([entry[0] for entry in other.shelf.log()], ["page", "blot"])
        self.assertEqual(other.store.image(), self.kept.store.image())

    def test_within_each(self):
        self.kept.do(("put", 5, 7))
        told = []
        self.kept.store.each(lambda key, value: told.append(self.kept.settle()))
        self.assertEqual(told, [[3, 1]])
        self.assertEqual(self.kept.do(("put", 6, 1)), 2)

    def test_the_list_told_is_the_askers_own(self):
        self.kept.settle().append("more")
        self.settled([0], (0, "head 2 0 1 2 2,3,1,eldest -"))

    def test_no_page_of_the_last_settling_is_written_over(self):
        chance = random.Random(97)
        kept = begin(Shelf(), (2, 3, 2, "fullest"))
        standing = {2}
        for turn in range(80):
            kept.do(some_deed(chance, list(range(0, 60, 3)), kept.store.marks()))
            if turn % 4 == 3:
                if turn % 3 == 0:
                    kept.store.press(10, 40)
                if turn % 5 == 0:
                    kept.store.squeeze()
                written = kept.settle()
                self.assertEqual(set(written[:-1]) & standing, set())
                heads = [kept.shelf.page(place) for place in (0, 1)]
                self.assertEqual(written[-1], (turn // 4 + 1) % 2)
                self.assertEqual(read_head(body_of(heads[written[-1]]))[0], turn // 4 + 1)
                standing = self.places_of(kept.shelf, read_head(body_of(heads[written[-1]]))[3])
                self.assertEqual(len(standing), len(kept.store.image()[4]))

    def places_of(self, shelf, top):
        places, waiting = set(), [top]
        while waiting:
            place = waiting.pop()
            places.add(place)
            words = body_of(shelf.page(place)).split(" ")
            if words[0] == "inner":
                waiting += [int(child.split("@")[1]) for child in words[3].split(",")]
        return places


class ComingUp(unittest.TestCase):
    def test_the_store_that_the_head_tells_with_the_lines_done_to_it(self):
        kept = begin(Shelf(), RULE)
        for key in range(6):
            kept.do(("put", key, key))
        kept.settle()
        store = kept.store.twin()
        for key in range(6, 12):
            kept.do(("put", key, key))
            store.do(("put", key, key))
        other = come_up(kept.shelf)
        self.assertIs(other.shelf, kept.shelf)
        self.assertEqual((other.store.image(), other.store.steps()), (store.image(), store.steps()))
        self.assertEqual(kept.shelf.log()[-1], ("blot",))
        self.assertEqual(read_head(body_of(kept.shelf.page(0)))[:2], (2, 12))

    def test_steps(self):
        kept = begin(Shelf(), RULE)
        kept.do(("put", 5, 1))
        kept.settle()
        self.assertEqual(come_up(kept.shelf).store.steps(), [])
        kept = come_up(kept.shelf)
        kept.do(("put", 6, 1))
        kept.do(("mark",))
        self.assertEqual(come_up(kept.shelf).store.steps(), [])

    def test_works_by_hand_are_forgotten(self):
        kept = begin(Shelf(), (4, 3, 1, "eldest"))
        for key in (5, 6, 9, 8):
            kept.do(("put", key, key))
        kept.settle()
        image = kept.store.image()
        kept.store.press(0, END)
        kept.store.squeeze()
        self.assertNotEqual(kept.store.image(), image)
        self.assertEqual(come_up(kept.shelf).store.image(), image)
        kept = come_up(kept.shelf)
        kept.store.squeeze()
        image = kept.store.image()
        kept.settle()
        self.assertEqual(come_up(kept.shelf).store.image(), image)

    def test_lines_up_to_the_last_are_passed_over(self):
        kept = begin(Shelf(), RULE)
        for turn in range(4):
            kept.do(("add", 5, 1))
        kept.settle()
        cut = kept.shelf.after(len(kept.shelf.log()) - 1, 0)
        self.assertEqual(cut.journal(), "1 add 5 1\n2 add 5 1\n3 add 5 1\n4 add 5 1\n")
        self.assertEqual(come_up(cut).store.read(5), 4)

    def test_what_stands_behind_the_last_line_feed_is_left_out(self):
        kept = begin(Shelf(), RULE)
        kept.do(("put", 5, 12))
        kept.do(("put", 5, 34))
        log = kept.shelf.log()
        for signs in range(len("2 put 5 34") + 1):
            other = come_up(kept.shelf.after(len(log) - 1, signs))
            self.assertEqual((other.store.last, other.store.read(5)), (1, 12))
            self.assertEqual(other.do(("put", 5, 56)), 2)
            self.assertEqual(come_up(other.shelf).store.read(5), 56)

    def test_it_counts_as_the_last_settling(self):
        kept = begin(Shelf(), (2, 3, 1, "eldest"))
        kept.do(("put", 5, 7))
        kept.do(("put", 9, 1))
        shelf = kept.shelf.after(len(kept.shelf.log()), 0)
        come_up(shelf)
        told = [page(3, "leaf 2 9=0:1"), page(4, "leaf 0 5=0:7"), page(5, "inner 1 9 0@4,2@3 -")]
        self.assertEqual(shelf.log(), told + [page(1, "head 1 2 3 5 2,3,1,eldest -"), ("blot",)])
        come_up(shelf)
        self.assertEqual(shelf.log()[5:], [page(0, "head 2 2 3 5 2,3,1,eldest -"), ("blot",)])

    def test_the_head_of_the_greater_series_counts(self):
        shelf = begin(Shelf(), RULE).shelf
        for series in range(1, 12):
            come_up(shelf)
            heads = [read_head(body_of(shelf.page(place)))[0] for place in (0, 1)]
            self.assertEqual(sorted(heads), [series - 1, series])
            self.assertEqual(heads[series % 2], series)


class Cutting(unittest.TestCase):
    KEYS = list(range(0, 60, 3)) + [END - 1]

    def row_of(self, chance, rule, many):
        """A kept store behind some deeds, settlings and works, and the plain maps behind each many of its deeds."""
        kept, plain = begin(Shelf(), rule), PlainMap()
        plains = [self.sights(plain)]
        while plain.last < many:
            turn = chance.random()
            if turn < 0.08:
                kept.settle()
            elif turn < 0.12:
                kept.store.press(*sorted(chance.sample(self.KEYS, 2)))
            elif turn < 0.14:
                kept.store.squeeze()
            else:
                deed = some_deed(chance, self.KEYS, plain.marks())
                self.assertEqual(kept.do(deed), plain.do(deed))
                plains.append(self.sights(plain))
        return kept, plains

    def sights(self, plain):
        return (plain.last, plain.marks(), {at: plain.sight(at) for at in plain.marks() + [None]})

    def reads_as(self, store, sights):
        told = {at: store.stretch(at=at) for at in store.marks() + [None]}
        self.assertEqual((store.last, store.marks(), told), sights)
        self.assertIsNone(image_fault(store.image()))

    def cuts(self, chance, shelf, all_signs=False):
        """Each many of its writes, with several signs of the next one; told with how many lines are whole."""
        lines = 0
        for many, entry in enumerate(shelf.log()):
            most = len(entry[-1]) - (entry[0] == "page") if entry[0] != "blot" else 0
            signs = range(most + 1) if all_signs else sorted({0, 1, most // 2, most - 1, most} & set(range(most + 1)))
            for sign in signs:
                yield many, sign, lines
            lines += entry[0] == "line"
        yield len(shelf.log()), 0, lines

    def test_cut_at_any_write(self):
        chance = random.Random(98)
        for rule in ((1, 3, 1, "fullest"), (2, 3, 2, "eldest"), (9, 5, 4, "fullest")):
            kept, plains = self.row_of(chance, rule, 45)
            begun = [at for at, entry in enumerate(kept.shelf.log()) if entry[:2] == ("page", 0)][0] + 1
            for many, signs, lines in self.cuts(chance, kept.shelf):
                cut = kept.shelf.after(many, signs)
                if many < begun:
                    with self.assertRaises(NoShelf):
                        come_up(cut)
                    continue
                other = come_up(cut)
                self.reads_as(other.store, plains[lines])
                self.assertEqual(cut.journal(), "")

    def test_cut_again_while_it_comes_up(self):
        chance = random.Random(99)
        for rule in ((1, 3, 1, "eldest"), (3, 3, 2, "fullest")):
            kept, plains = self.row_of(chance, rule, 20)
            begun = [at for at, entry in enumerate(kept.shelf.log()) if entry[:2] == ("page", 0)][0] + 1
            for many, signs, lines in self.cuts(chance, kept.shelf):
                if many < begun or chance.random() < 0.7:
                    continue
                cut = kept.shelf.after(many, signs)
                come_up(cut)
                for again, sign, none in self.cuts(chance, cut):
                    third = cut.after(again, sign)
                    self.reads_as(come_up(third).store, plains[lines])
                    fourth = third.after(chance.randrange(len(third.log()) + 1), 0)
                    self.reads_as(come_up(fourth).store, plains[lines])

    def test_deeds_go_on_and_are_cut_again(self):
        chance = random.Random(100)
        for rule in ((1, 3, 1, "eldest"), (4, 4, 2, "fullest")):
            shelf = begin(Shelf(), rule).shelf.after(3, 0)
            deeds = []
            for turn in range(12):
                kept = come_up(shelf)
                self.reads_as(kept.store, self.sights(self.plain_of(deeds)))
                ahead = len(deeds)
                for deed in range(chance.randint(0, 12)):
                    deeds.append(some_deed(chance, self.KEYS, kept.store.marks()))
                    self.assertEqual(kept.do(deeds[-1]), len(deeds))
                    if chance.random() < 0.1:
                        kept.settle()
                many, signs, lines = chance.choice(list(self.cuts(chance, shelf)))
                shelf = shelf.after(many, signs)
                deeds = deeds[:ahead + lines]

    def plain_of(self, deeds):
        plain = PlainMap()
        for deed in deeds:
            plain.do(deed)
        return plain

    def test_each_sign_of_a_short_row(self):
        kept, plain = begin(Shelf(), (1, 3, 1, "eldest")), PlainMap()
        plains = [self.sights(plain)]
        for deed in (("put", 5, 1), ("put", 7, 2), ("mark",), ("raise", 0, 9, 1), ("put", 6, 3)):
            kept.do(deed)
            plain.do(deed)
            plains.append(self.sights(plain))
        kept.settle()
        kept.do(("wipe", 0, 7))
        plain.do(("wipe", 0, 7))
        plains.append(self.sights(plain))
        for many, signs, lines in self.cuts(None, kept.shelf, all_signs=True):
            if many >= 2:
                self.reads_as(come_up(kept.shelf.after(many, signs)).store, plains[lines])

    def test_an_elder_one_may_be_read_on(self):
        kept = begin(Shelf(), RULE)
        kept.do(("put", 5, 1))
        come_up(kept.shelf).do(("put", 5, 2))
        self.assertEqual((kept.store.read(5), come_up(kept.shelf).store.read(5)), (1, 2))


if __name__ == "__main__":
    unittest.main()
