import unittest

from notefall.wholes import END, is_key, is_rule, is_stretch, is_whole
from things import OTHERS, TRUTHS, Agreeing, Plain, Sore

SIXTY = 10 ** 60 - 1


class Case(unittest.TestCase):
    def each_is(self, told, asked, *rows):
        for at, row in enumerate(rows):
            with self.subTest(at=at):
                self.assertIs(asked(*row), told)


class Wholes(Case):
    def test_from_low_to_high(self):
        self.each_is(True, is_whole, (3, 3, 7), (5, 3, 7), (7, 3, 7), (0, 0, 1), (1, 0, 1))

    def test_one_beyond_each(self):
        self.each_is(False, is_whole, (2, 3, 7), (8, 3, 7), (-1, 0, 1), (2, 0, 1))

    def test_low_equal_to_high(self):
        self.each_is(True, is_whole, (4, 4, 4), (0, 0, 0), (-4, -4, -4))
        self.each_is(False, is_whole, (3, 4, 4), (5, 4, 4), (-1, 0, 0), (1, 0, 0))

    def test_low_above_high(self):
        for thing in range(-2, 12):
            self.each_is(False, is_whole, (thing, 7, 3), (thing, 1, 0), (thing, 1, -1))

    def test_bounds_below_zero(self):
        self.each_is(True, is_whole, (-7, -7, -3), (-5, -7, -3), (-3, -7, -3), (-1, -1, 1), (0, -1, 1))
        self.each_is(False, is_whole, (-8, -7, -3), (-2, -7, -3), (3, -7, -3), (5, -7, -3), (0, -7, -3))

    def test_sixty_figures(self):
        self.each_is(True, is_whole, (SIXTY, 0, SIXTY), (-SIXTY, -SIXTY, 0), (0, -SIXTY, SIXTY), (SIXTY, SIXTY, SIXTY))
        self.each_is(False, is_whole, (SIXTY, 0, SIXTY - 1), (-SIXTY, 1 - SIXTY, 0), (SIXTY, -SIXTY, 0))
        self.each_is(False, is_whole, (SIXTY + 1, -SIXTY, SIXTY), (-SIXTY - 1, -SIXTY, SIXTY))

    def test_a_truth_is_none(self):
        for truth in TRUTHS:
            self.each_is(False, is_whole, (truth, 0, 1), (truth, -9, 9), (truth, 1, 1), (truth, 0, 0))

    def test_of_anything(self):
        self.each_is(False, is_whole, *[(thing, -SIXTY, SIXTY) for thing in OTHERS])
        self.each_is(False, is_whole, *[(thing, 1, 0) for thing in OTHERS])

    def test_handed_in_by_name(self):
        self.assertIs(is_whole(thing=3, low=1, high=3), True)
        self.assertIs(is_whole(high=3, low=1, thing=4), False)
        self.assertIs(is_whole(3, 1, high=2), False)


class Keys(Case):
    def test_end(self):
        self.assertEqual(END, 10 ** 12)
        self.assertEqual(END, 1000000000000)
        self.assertIsInstance(END, int)

    def test_keys(self):
        self.each_is(True, is_key, (0,), (1,), (500,), (10 ** 12 - 2,), (END - 1,), (999999999999,))

    def test_beyond(self):
        self.each_is(False, is_key, (-1,), (END,), (-2,), (END + 1,), (-END,), (2 * END,), (SIXTY,), (-SIXTY,))

    def test_of_anything(self):
        self.each_is(False, is_key, *[(thing,) for thing in OTHERS])

    def test_handed_in_by_name(self):
        self.assertIs(is_key(thing=0), True)
        self.assertIs(is_key(thing=END), False)


class Stretches(Case):
    def test_stretches(self):
        self.each_is(True, is_stretch, (0, END), (0, 1), (END - 1, END), (3, 9), (3, 4), (1, END - 1), (0, END - 1))

    def test_low_equal_to_high(self):
        self.each_is(False, is_stretch, (0, 0), (1, 1), (END - 1, END - 1), (END, END), (-1, -1), (END + 1, END + 1))

    def test_low_above_high(self):
        self.each_is(False, is_stretch, (1, 0), (END, 0), (END, END - 1), (9, 3), (0, -1), (END + 1, END))

    def test_beyond(self):
        self.each_is(False, is_stretch, (-1, END), (-1, 0), (-1, 1), (-5, -2), (-SIXTY, 5))
        self.each_is(False, is_stretch, (0, END + 1), (END, END + 1), (END - 1, END + 1), (END + 2, END + 5), (5, SIXTY))
        self.each_is(False, is_stretch, (-1, END + 1), (-SIXTY, SIXTY))

    def test_of_anything_in_either_place(self):
        for good in (0, 1, 5, END - 1, END):
            self.each_is(False, is_stretch, *[(thing, good) for thing in OTHERS])
            self.each_is(False, is_stretch, *[(good, thing) for thing in OTHERS])

    def test_of_anything_in_both(self):
        for other in OTHERS:
            self.each_is(False, is_stretch, *[(thing, other) for thing in OTHERS])

    def test_handed_in_by_name(self):
        self.assertIs(is_stretch(low=0, high=1), True)
        self.assertIs(is_stretch(high=0, low=1), False)
        self.assertIs(is_stretch(0, high=END), True)


class Rules(Case):
    BOUNDS = [(1, 64), (3, 16), (1, 64)]

    def with_thing(self, place, thing):
        rule = [4, 4, 4, "fullest"]
        rule[place] = thing
        return (tuple(rule),)

    def test_rules(self):
        self.each_is(True, is_rule, ((4, 4, 4, "fullest"),), ((4, 4, 4, "eldest"),))
        for plan in ("fullest", "eldest"):
            self.each_is(True, is_rule, ((1, 3, 1, plan),), ((64, 16, 64, plan),))

    def test_each_number_at_its_bounds_and_beyond(self):
        for place, (least, most) in enumerate(self.BOUNDS):
            for thing in (least, most, least + 1, most - 1):
                self.each_is(True, is_rule, self.with_thing(place, thing))
            for thing in (least - 1, most + 1, -least, -most, 0, SIXTY, -SIXTY):
                self.each_is(False, is_rule, self.with_thing(place, thing))

    def test_the_numbers_have_bounds_of_their_own(self):
        self.each_is(True, is_rule, self.with_thing(0, 17), self.with_thing(2, 17), self.with_thing(2, 2))
        self.each_is(False, is_rule, self.with_thing(1, 17), self.with_thing(1, 2), self.with_thing(1, 1))

    def test_other_things_for_a_number(self):
        for place in range(3):
            self.each_is(False, is_rule, *[self.with_thing(place, thing) for thing in OTHERS])

    def test_plans(self):
        texts = ["", "Fullest", "FULLEST", "full", "fullest ", " eldest", "eldest\n", "fullesteldest", "e", "4"]
        self.each_is(False, is_rule, *[self.with_thing(3, text) for text in texts])
        self.each_is(False, is_rule, *[self.with_thing(3, thing) for thing in OTHERS])
        things = [0, 1, -1, b"fullest", ["fullest"], ("fullest",), {"fullest": 1}, Sore(), Agreeing(), Plain()]
        self.each_is(False, is_rule, *[self.with_thing(3, thing) for thing in things])

    def test_how_many_things(self):
        whole = (4, 4, 4, "fullest")
        self.each_is(False, is_rule, ((),), *[(whole[:many],) for many in range(4)])
        self.each_is(False, is_rule, *[(whole[:place] + whole[place + 1:],) for place in range(4)])
        self.each_is(False, is_rule, (whole + (4,),), (whole + ("eldest",),), ((4,) + whole,), (whole + whole,))
        self.each_is(False, is_rule, (whole + (None,),), ((whole,),))

    def test_the_order_of_things(self):
        self.each_is(False, is_rule, (("fullest", 4, 4, 4),), ((4, "fullest", 4, 4),), ((4, 4, "fullest", 4),))

    def test_no_tuple(self):
        self.each_is(False, is_rule, ([4, 4, 4, "fullest"],), ({4: 4, 3: 3, 1: 1, "fullest": 1},), ("full",), (b"full",))
        self.each_is(False, is_rule, (4,), ("4 4 4 fullest",), ([],), (range(4),), (SIXTY,), (-SIXTY,))
        self.each_is(False, is_rule, *[(thing,) for thing in OTHERS])

    def test_handed_in_by_name(self):
        self.assertIs(is_rule(thing=(4, 4, 4, "eldest")), True)
        self.assertIs(is_rule(thing=None), False)


if __name__ == "__main__":
    unittest.main()
