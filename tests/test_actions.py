import unittest

from notefall.actions import NOTHING, acts, behind, is_action
from notefall.errors import NoAction
from things import OTHERS, Agreeing, Sore

SIXTY = 10 ** 60 - 1
GONE = ("gone",)
THERE = [(word, n) for word in ("plus", "is") for n in (-2, 0, 3)] + [GONE]
NONE = [("is", n) for n in (-2, 0, 3)] + [GONE]
ACTIONS = [(there, none) for there in THERE for none in NONE]
VALUES = [None, 0, 1, -1, 5, -7, SIXTY, -SIXTY]

# Things that are neither half of an action.
NO_HALF = [
    (), ("plus",), ("is",), ("gone", 1), ("gone", None), ("gone", ()), ("plus", 1, 2), ("is", 1, 2), ("gone", 1, 2),
    ("minus", 1), ("Plus", 1), ("IS", 1), ("Gone",), ("is ", 1), ("", 1), ("",), ("go",), (1, "is"), (1, 1), (1,),
    ("plus", True), ("is", True), ("is", False), ("plus", None), ("is", None), ("is", "1"), ("plus", "1"),
    ("is", (1,)), ("plus", (1,)), ("is", [1]), ("is", 1.0), ("is", Sore()), ("is", Agreeing()), (b"gone",), (b"is", 1),
    ["gone"], ["is", 1], ["plus", 1], "gone", "is", {"is": 1}, {"gone": 1}, (("gone",),), (None, 1), (None,),
    (True, 1), (Sore(), 1), (Agreeing(), 1), (Sore(),), (Agreeing(),), (["is"], 1), (["gone"],),
]


def results(action):
    return [acts(action, value) for value in VALUES]


class IsAction(unittest.TestCase):
    def each_is(self, told, things):
        for at, thing in enumerate(things):
            with self.subTest(at=at):
                self.assertIs(is_action(thing), told)

    def test_each_kind_of_both_halves(self):
        self.each_is(True, ACTIONS)

    def test_nothing(self):
        self.assertEqual(NOTHING, (("plus", 0), ("gone",)))
        self.assertIs(is_action(NOTHING), True)

    def test_numbers_of_sixty_figures(self):
        for n in (SIXTY, -SIXTY):
            self.each_is(True, [(("plus", n), ("is", n)), (("is", n), ("is", -n)), (("plus", n), GONE), (GONE, ("is", n))])

    def test_a_plus_is_no_second_half(self):
        self.each_is(False, [(there, ("plus", n)) for there in THERE for n in (0, 3, SIXTY)])

    def test_other_things_for_a_half(self):
        for thing in NO_HALF + OTHERS:
            self.each_is(False, [(thing, GONE), (thing, ("is", 1)), (GONE, thing), (("plus", 1), thing), (thing, thing)])

    def test_other_things_for_a_number(self):
        for thing in OTHERS:
            self.each_is(False, [(("plus", thing), GONE), (("is", thing), GONE), (GONE, ("is", thing))])

    def test_other_things_for_a_word(self):
        for thing in OTHERS:
            self.each_is(False, [((thing, 1), GONE), ((thing,), GONE), (GONE, (thing, 1)), (GONE, (thing,))])

    def test_a_half_more_or_less(self):
        self.each_is(False, [(), (GONE,), (("plus", 1),), (GONE, GONE, GONE), (("plus", 1), GONE, None), NOTHING + NOTHING])

    def test_a_list_for_the_whole(self):
        self.each_is(False, [[("plus", 1), GONE], [GONE, GONE], [NOTHING], (NOTHING,), {GONE: GONE}])

    def test_the_halves_the_other_way_round(self):
        self.each_is(False, [(GONE, ("plus", 0)), (("is", 1), ("plus", 1))])

    def test_of_anything(self):
        self.each_is(False, OTHERS + ["plus 0 gone", "ab", b"ab", 0, 7, SIXTY, range(2)])

    def test_handed_in_by_name(self):
        self.assertIs(is_action(thing=NOTHING), True)
        self.assertIs(is_action(thing=None), False)


class Acts(unittest.TestCase):
    def test_of_a_value(self):
        for value in VALUES[1:]:
            for none in NONE:
                for n in (0, 3, -4, SIXTY, -SIXTY):
                    with self.subTest(value=value, none=none, n=n):
                        self.assertEqual(acts((("plus", n), none), value), value + n)
                        self.assertEqual(acts((("is", n), none), value), n)
                self.assertIsNone(acts((GONE, none), value))

    def test_of_none(self):
        for there in THERE:
            for n in (0, 3, -4, SIXTY, -SIXTY):
                with self.subTest(there=there, n=n):
                    self.assertEqual(acts((there, ("is", n)), None), n)
            self.assertIsNone(acts((there, GONE), None))

    def test_zero_is_a_value(self):
        self.assertEqual(acts((("plus", 5), ("is", 9)), 0), 5)
        self.assertEqual(acts((("plus", 0), ("is", 9)), 0), 0)
        self.assertEqual(acts((("is", 0), GONE), 4), 0)
        self.assertEqual(acts((GONE, ("is", 0)), None), 0)

    def test_nothing_changes_nothing(self):
        self.assertEqual(results(NOTHING), VALUES)

    def test_refused(self):
        for at, thing in enumerate(OTHERS + NO_HALF + [(GONE, ("plus", 1)), [GONE, GONE], (("is", True), GONE)]):
            for value in (None, 0, 5):
                with self.subTest(at=at, value=value), self.assertRaises(NoAction):
                    acts(thing, value)

    def test_handed_in_by_name(self):
        self.assertEqual(acts(value=4, action=(("plus", 1), GONE)), 5)


class Behind(unittest.TestCase):
    def test_written_out(self):
        self.assertEqual(behind((("plus", 2), GONE), (("plus", 5), GONE)), (("plus", 7), GONE))
        self.assertEqual(behind((("plus", 2), ("is", 2)), (("plus", 5), ("is", 5))), (("plus", 7), ("is", 7)))
        self.assertEqual(behind((("is", 2), GONE), (("plus", 5), ("is", 9))), (("is", 7), ("is", 9)))
        self.assertEqual(behind((GONE, ("is", 2)), (("plus", 5), ("is", 9))), (("is", 9), ("is", 7)))
        self.assertEqual(behind((("plus", 2), ("is", 2)), (("is", 5), GONE)), (("is", 5), ("is", 5)))
        self.assertEqual(behind((("plus", 2), ("is", 2)), (GONE, ("is", 8))), (GONE, GONE))
        self.assertEqual(behind((GONE, GONE), (("plus", 1), GONE)), (GONE, GONE))
        self.assertEqual(behind((GONE, GONE), (("plus", 1), ("is", 1))), (("is", 1), ("is", 1)))

    def test_all_pairs_do_what_one_and_then_other_does(self):
        for one in ACTIONS:
            for other in ACTIONS:
                both = behind(one, other)
                with self.subTest(one=one, other=other):
                    self.assertIs(is_action(both), True)
                    self.assertEqual(results(both), [acts(other, acts(one, value)) for value in VALUES])

    def test_great_numbers(self):
        great = (("plus", SIXTY), ("is", -SIXTY))
        self.assertEqual(behind(great, great), (("plus", 2 * SIXTY), ("is", 0)))
        self.assertEqual(behind((("is", SIXTY), GONE), great), (("is", 2 * SIXTY), ("is", -SIXTY)))

    def test_equal_just_where_they_do_the_same(self):
        made = ACTIONS + [behind(one, other) for one in ACTIONS for other in ACTIONS]
        by_results = {}
        for action in made:
            by_results.setdefault(tuple(results(action)), set()).add(action)
        self.assertEqual([actions for actions in by_results.values() if len(actions) > 1], [])
        self.assertEqual(len(by_results), len(set(made)))

    def test_unlike_pairs_that_do_the_same(self):
        self.assertEqual(behind((("plus", 1), GONE), (("plus", 2), GONE)), behind((("plus", 4), GONE), (("plus", -1), GONE)))
        self.assertEqual(behind((("is", 1), ("is", 5)), (("is", 2), GONE)), behind((GONE, GONE), (("plus", 9), ("is", 2))))

    def test_bracketed_in_any_way(self):
        for one in ACTIONS:
            for other in ACTIONS:
                for third in ACTIONS:
                    left = behind(behind(one, other), third)
                    if left != behind(one, behind(other, third)):
                        self.fail(f"{one} {other} {third}")

    def test_nothing_ahead_and_behind(self):
        for action in ACTIONS + [(("plus", SIXTY), ("is", -SIXTY))]:
            with self.subTest(action):
                self.assertEqual(behind(NOTHING, action), action)
                self.assertEqual(behind(action, NOTHING), action)

    def test_refused(self):
        for at, thing in enumerate(OTHERS + NO_HALF + [(GONE, ("plus", 1)), [GONE, GONE], (("is", True), GONE)]):
            for pair in ((thing, NOTHING), (NOTHING, thing), (thing, thing), (thing, Sore()), (Sore(), thing)):
                with self.subTest(at=at), self.assertRaises(NoAction):
                    behind(*pair)

    def test_handed_in_by_name(self):
        self.assertEqual(behind(other=(("is", 1), GONE), one=(GONE, ("is", 3))), (GONE, ("is", 1)))


if __name__ == "__main__":
    unittest.main()
