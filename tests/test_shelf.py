import unittest

from notefall.errors import NoCut, NoPlace
from notefall.shelf import Shelf
from things import OTHERS

MOST = 10 ** 6
SIXTY = 10 ** 60 - 1


def standing(shelf):
    return ({place: shelf.page(place) for place in shelf.places()}, shelf.journal(), shelf.log())


def some_shelf():
    shelf = Shelf()
    shelf.write(3, "abc")
    shelf.line("one")
    shelf.write(0, "z")
    shelf.write(3, "de fg")
    shelf.line("")
    shelf.blot()
    shelf.line("two 2")
    return shelf


# What stands behind each many of the writes above.
BEHIND = [
    ({}, ""), ({3: "abc"}, ""), ({3: "abc"}, "one\n"), ({3: "abc", 0: "z"}, "one\n"), ({3: "de fg", 0: "z"}, "one\n"),
    ({3: "de fg", 0: "z"}, "one\n\n"), ({3: "de fg", 0: "z"}, ""), ({3: "de fg", 0: "z"}, "two 2\n"),
]
SIGNS = [3, 4, 1, 5, 1, 1, 6, 1]


class Writing(unittest.TestCase):
    def test_a_new_shelf(self):
        self.assertEqual(standing(Shelf()), ({}, "", []))

    def test_all_tell_none(self):
        shelf = Shelf()
        self.assertEqual([shelf.write(0, "a"), shelf.line("b"), shelf.blot()], [None] * 3)

    def test_what_stands_behind_each(self):
        shelf = Shelf()
        log = [("page", 3, "abc"), ("line", "one"), ("page", 0, "z"), ("page", 3, "de fg"), ("line", ""), ("blot",), ("line", "two 2")]
        for many, entry in enumerate(log):
            {"page": shelf.write, "line": shelf.line, "blot": shelf.blot}[entry[0]](*entry[1:])
            self.assertEqual(standing(shelf), (*BEHIND[many + 1], log[:many + 1]))

    def test_texts_that_are_called_like_writes(self):
        shelf = Shelf()
        for word in ("page", "line", "blot"):
            shelf.line(word)
            shelf.write(7, word)
            self.assertEqual(shelf.page(7), word)
        self.assertEqual(shelf.journal(), "page\nline\nblot\n")
        self.assertEqual(shelf.after(5, 1).journal(), shelf.journal())

    def test_places(self):
        shelf = Shelf()
        for place in (MOST, 0, 7, 1, MOST - 1):
            shelf.write(place, str(place))
        self.assertEqual(shelf.places(), [0, 1, 7, MOST - 1, MOST])
        self.assertEqual([shelf.page(place) for place in (0, 1, 2, MOST)], ["0", "1", None, str(MOST)])

    def test_by_name(self):
        shelf = Shelf()
        shelf.write(text="ab", place=1)
        shelf.line(text="cd")
        self.assertEqual((shelf.page(place=1), shelf.journal()), ("ab", "cd\n"))
        self.assertEqual(standing(shelf.after(signs=1, many=0))[0], {1: "a"})

    def test_refused(self):
        shelf = some_shelf()
        kept = standing(shelf)
        for at, place in enumerate([-1, MOST + 1, SIXTY, -SIXTY] + OTHERS):
            with self.subTest(at=at), self.assertRaises(NoPlace):
                shelf.write(place, "a")
            self.assertEqual(standing(shelf), kept)

    def test_the_page_of_anything(self):
        shelf = some_shelf()
        shelf.write(1, "y")
        for at, place in enumerate([-1, 2, MOST, MOST + 1, SIXTY, 3.0, "3", [3]] + OTHERS):
            with self.subTest(at=at):
                self.assertIsNone(shelf.page(place))

    def test_lists_that_were_told(self):
        shelf = some_shelf()
        kept = standing(shelf)
        shelf.log().append("more")
        shelf.log().clear()
        shelf.places().append("more")
        self.assertEqual(standing(shelf), kept)
        self.assertEqual(shelf.after(7, 0).places(), [0, 3])


class After(unittest.TestCase):
    def test_behind_each_many(self):
        shelf = some_shelf()
        for many, stand in enumerate(BEHIND):
            self.assertEqual(standing(shelf.after(many, 0)), (*stand, []))

    def test_a_page_is_cut(self):
        shelf = some_shelf()
        self.assertEqual(standing(shelf.after(0, 1))[0], {3: "a"})
        self.assertEqual(standing(shelf.after(0, 2))[0], {3: "ab"})
        for signs, text in [(0, "abc"), (1, "d"), (2, "de"), (3, "de "), (4, "de f")]:
            self.assertEqual(standing(shelf.after(3, signs)), ({3: text, 0: "z"}, "one\n", []))

    def test_a_line_is_cut(self):
        shelf = some_shelf()
        for signs in range(4):
            self.assertEqual(standing(shelf.after(1, signs)), ({3: "abc"}, "one"[:signs], []))
        for signs in range(6):
            self.assertEqual(shelf.after(6, signs).journal(), "two 2"[:signs])
        self.assertEqual(shelf.after(4, 0).journal(), "one\n")

    def test_of_a_blot_nothing(self):
        self.assertEqual(some_shelf().after(5, 0).journal(), "one\n\n")

    def test_refused(self):
        shelf = some_shelf()
        kept = standing(shelf)
        cuts = [(-1, 0), (8, 0), (SIXTY, 0), (0, -1), (0, SIXTY), (7, 1), (7, -1), (5, 1)]
        cuts += [(many, signs) for many, signs in enumerate(SIGNS)] + [(many, signs + 1) for many, signs in enumerate(SIGNS)]
        cuts += [(thing, 0) for thing in OTHERS] + [(0, thing) for thing in OTHERS] + [(7, thing) for thing in OTHERS]
        for at, (many, signs) in enumerate(cuts):
            with self.subTest(at=at), self.assertRaises(NoCut):
                shelf.after(many, signs)
        self.assertEqual(standing(shelf), kept)
        for many, signs in enumerate(SIGNS):
            shelf.after(many, signs - 1)

    def test_a_bare_shelf(self):
        self.assertEqual(standing(Shelf().after(0, 0)), ({}, "", []))
        for many, signs in [(0, 1), (1, 0), (True, 0), (False, 0), (0, False)]:
            with self.assertRaises(NoCut):
                Shelf().after(many, signs)

    def test_after_of_what_after_told(self):
        shelf = some_shelf().after(3, 2)
        self.assertEqual(standing(shelf.after(0, 0)), ({3: "de", 0: "z"}, "one\n", []))
        with self.assertRaises(NoCut):
            shelf.after(1, 0)
        shelf.write(0, "new")
        shelf.line("x")
        shelf.blot()
        self.assertEqual(standing(shelf)[:2], ({3: "de", 0: "new"}, ""))
        self.assertEqual(shelf.log(), [("page", 0, "new"), ("line", "x"), ("blot",)])
        self.assertEqual(standing(shelf.after(0, 2)), ({3: "de", 0: "ne"}, "one\n", []))
        self.assertEqual(standing(shelf.after(1, 1)), ({3: "de", 0: "new"}, "one\nx", []))
        self.assertEqual(standing(shelf.after(2, 0)), ({3: "de", 0: "new"}, "one\nx\n", []))
        self.assertEqual(standing(shelf.after(3, 0)), ({3: "de", 0: "new"}, "", []))
        self.assertEqual(standing(shelf.after(0, 0).after(0, 0)), ({3: "de", 0: "z"}, "one\n", []))

    def test_neither_changes_the_other(self):
        shelf = some_shelf()
        other = shelf.after(4, 0)
        kept, told = standing(shelf), standing(other)
        other.write(3, "other")
        other.write(9, "other")
        other.line("other")
        self.assertEqual(standing(shelf), kept)
        self.assertEqual(standing(other.after(0, 0)), told)
        again = shelf.after(4, 0)
        shelf.write(3, "mine")
        shelf.write(8, "mine")
        shelf.blot()
        self.assertEqual(standing(again), told)
        self.assertEqual(standing(shelf.after(4, 0)), told)


if __name__ == "__main__":
    unittest.main()
