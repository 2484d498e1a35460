import copy
import random
import unittest

from notefall.actions import acts
from notefall.leaves import halves, rows_behind, swept, value_of
from notefall.wholes import END
from things import add, level, put, up, wipe

GONE = ("gone",)
SIXTY = 10 ** 60 - 1


def some_rows(chance, last):
    """Leaf rows of keys below 9 with versions of numbers up to last."""
    rows = []
    for key in sorted(chance.sample(range(9), chance.randint(0, 6))):
        numbers = sorted(chance.sample(range(last + 1), chance.randint(1, 4)))
        rows.append((key, [(number, chance.choice([None, 0, 1, 2])) for number in numbers]))
    return rows


def some_marks(chance, last):
    return sorted(chance.sample(range(1, last + 1), chance.choice([0, 1, 2, 4])))


def told_of(rows, key, at):
    return dict(rows).get(key) and value_of(dict(rows)[key], at=at)


class ValueOf(unittest.TestCase):
    def test_one_version(self):
        for at, told in [(None, 7), (2, None), (0, None), (3, 7), (4, 7), (SIXTY, 7)]:
            with self.subTest(at):
                self.assertEqual(value_of([(3, 7)], at=at), told)

    def test_number_zero(self):
        self.assertEqual(value_of([(0, 7)], at=0), 7)
        self.assertEqual(value_of([(0, 7)], at=1), 7)
        self.assertEqual(value_of([(0, 7)]), 7)

    def test_several(self):
        versions = [(2, 10), (5, None), (6, 0), (9, -4)]
        rows = [(None, -4), (0, None), (1, None), (2, 10), (4, 10), (5, None), (6, 0), (8, 0), (9, -4), (SIXTY, -4)]
        for at, told in rows:
            with self.subTest(at):
                self.assertEqual(value_of(versions, at=at), told)
        self.assertEqual(versions, [(2, 10), (5, None), (6, 0), (9, -4)])

    def test_the_last_one_is_none(self):
        self.assertIsNone(value_of([(2, 10), (5, None)]))
        self.assertIsNone(value_of([(2, 10), (5, None)], at=5))
        self.assertEqual(value_of([(2, 10), (5, None)], at=4), 10)
        self.assertIsNone(value_of([(5, None)]))

    def test_handed_in_by_name(self):
        self.assertEqual(value_of(versions=[(3, 7)], at=3), 7)
        with self.assertRaises(TypeError):
            value_of([(3, 7)], 3)


class Swept(unittest.TestCase):
    def sweeps(self, versions, marks, told):
        """The row of key 5 becomes one of these versions, or goes, with other rows beside it."""
        for ahead in ([], [(4, [(0, 1)])]):
            for after in ([], [(END - 1, [(0, 2)])]):
                rows = ahead + [(5, versions)] + after
                kept = copy.deepcopy((rows, marks))
                made = swept(rows, marks)
                self.assertEqual(made, ahead + ([(5, told)] if told else []) + after)
                self.assertEqual((rows, marks), kept)
                self.assertEqual(swept(made, marks), made)
                for row in made:
                    row[1].append("more")
                made.append("more")
                self.assertEqual((rows, marks), kept)

    def test_no_rows(self):
        self.assertEqual(swept([], []), [])
        self.assertEqual(swept([], [3]), [])

    def test_no_marks(self):
        self.sweeps([(4, 7)], [], [(0, 7)])
        self.sweeps([(0, 7)], [], [(0, 7)])
        self.sweeps([(2, 1), (4, None), (6, 0)], [], [(0, 0)])
        self.sweeps([(2, 1), (4, None)], [], [])
        self.sweeps([(4, None)], [], [])

    def test_marks_ahead_of_all_versions(self):
        self.sweeps([(4, 7)], [3], [(4, 7)])
        self.sweeps([(6, 7)], [3], [(4, 7)])
        self.sweeps([(6, 7), (8, 9)], [1, 3], [(4, 9)])
        self.sweeps([(6, None)], [3], [])
        self.sweeps([(6, 7), (8, None)], [1, 3], [])

    def test_marks_between(self):
        self.sweeps([(2, 1), (6, 5)], [3], [(0, 1), (4, 5)])
        self.sweeps([(2, 1), (4, 5)], [3], [(0, 1), (4, 5)])
        self.sweeps([(2, 1), (6, 5), (8, 9)], [3], [(0, 1), (4, 9)])
        self.sweeps([(2, 1), (6, 5), (8, 9)], [3, 7], [(0, 1), (4, 5), (8, 9)])
        self.sweeps([(2, 1), (6, 5), (8, 9)], [2, 6], [(0, 1), (3, 5), (7, 9)])
        self.sweeps([(2, 1), (6, None)], [3], [(0, 1), (4, None)])
        self.sweeps([(2, 1), (6, None), (8, 4)], [3, 6], [(0, 1), (4, None), (7, 4)])

    def test_marks_beyond(self):
        self.sweeps([(2, 1), (6, 5)], [6], [(0, 5)])
        self.sweeps([(2, 1), (6, 5)], [9], [(0, 5)])
        self.sweeps([(2, 1), (6, 5)], [9, 12, SIXTY], [(0, 5)])
        self.sweeps([(2, 1), (6, None)], [9], [])

    def test_a_mark_that_sees_none_then_a_value(self):
        self.sweeps([(4, 7)], [3, 5], [(4, 7)])
        self.sweeps([(6, 7)], [1, 3, 8], [(4, 7)])
        self.sweeps([(2, None), (6, 7)], [3, 8], [(4, 7)])
        self.sweeps([(2, 1), (4, None), (6, 7)], [2, 5, 6], [(0, 1), (3, None), (6, 7)])

    def test_like_values_at_neighbouring_marks(self):
        self.sweeps([(2, 1), (9, 5)], [3, 5, 7], [(0, 1), (8, 5)])
        self.sweeps([(2, 1), (4, 2), (5, 1), (9, 5)], [3, 5, 7], [(0, 1), (8, 5)])
        self.sweeps([(2, 1), (4, 2), (5, 1)], [3, 5], [(0, 1)])
        self.sweeps([(2, 0), (4, None), (5, 0)], [3, 4], [(0, 0), (4, None), (5, 0)])

    def test_zero_is_no_lack_of_a_value(self):
        self.sweeps([(2, 0)], [], [(0, 0)])
        self.sweeps([(2, 0), (4, None)], [2], [(0, 0), (3, None)])
        self.sweeps([(2, 0)], [1], [(2, 0)])

    def test_a_mark_of_zero(self):
        self.sweeps([(0, 4), (1, 5)], [0], [(0, 4), (1, 5)])
        self.sweeps([(3, 5)], [0], [(1, 5)])

    def test_the_same_is_seen_as_ahead(self):
        chance = random.Random(21)
        for turn in range(800):
            rows = some_rows(chance, 20)
            marks = some_marks(chance, 22)
            made = swept(rows, marks)
            for key, versions in rows:
                for at in marks + [None]:
                    self.assertEqual(told_of(made, key, at), value_of(versions, at=at))
            for key, versions in made:
                before = dict(rows)[key]
                for number, value in versions:
                    self.assertLessEqual(number, max(other for other, its in before if its == value))
            self.assertEqual(swept(made, marks), made)

    def test_rows_of_which_the_same_is_seen_are_swept_to_the_same(self):
        chance = random.Random(22)
        by_sights = {}
        for turn in range(4000):
            marks = chance.choice([[], [4], [2, 6], [3, 4, 9]])
            numbers = sorted(chance.sample(range(12), chance.randint(1, 5)))
            versions = [(number, chance.choice([None, 0, 1])) for number in numbers]
            sights = tuple(value_of(versions, at=at) for at in marks + [None])
            made = swept([(5, versions)], marks)
            self.assertEqual(by_sights.setdefault((tuple(marks), sights), made), made)

    def test_handed_in_by_name(self):
        self.assertEqual(swept(marks=[3], rows=[(5, [(4, 7)])]), [(5, [(4, 7)])])


class RowsBehind(unittest.TestCase):
    ROWS = [(3, [(0, 10)]), (5, [(0, 20)]), (9, [(0, 30)])]

    def becomes(self, rows, notes, marks, told):
        kept = copy.deepcopy((rows, notes, marks))
        made = rows_behind(rows, notes, marks)
        self.assertEqual(made, told)
        self.assertEqual((rows, notes, marks), kept)
        for row in made:
            row[1].append("more")
        made.append("more")
        self.assertEqual((rows, notes, marks), kept)

    def test_no_rows_no_notes(self):
        self.becomes([], [], [], [])
        self.becomes([], [], [3], [])
        self.becomes(self.ROWS, [], [], self.ROWS)

    def test_without_notes_the_rows_are_swept(self):
        self.becomes([(3, [(2, 1), (6, 5)])], [], [], [(3, [(0, 5)])])
        self.becomes([(3, [(2, 1), (6, 5)])], [], [4], [(3, [(0, 1), (5, 5)])])
        self.becomes([(3, [(2, 1), (6, None)]), (4, [(0, 1)])], [], [], [(4, [(0, 1)])])

    def test_no_rows(self):
        self.becomes([], [put(4, 7, 1)], [], [(7, [(0, 1)])])
        self.becomes([], [up(4, 0, END, 1), level(5, 0, END, 2), wipe(6, 0, END)], [], [])
        self.becomes([], [put(4, 0, 1), put(5, END - 1, 2)], [], [(0, [(0, 1)]), (END - 1, [(0, 2)])])

    def test_a_note_of_one_key_at_a_key_without_a_row(self):
        self.becomes(self.ROWS, [put(4, 4, 1)], [], [self.ROWS[0], (4, [(0, 1)])] + self.ROWS[1:])
        self.becomes(self.ROWS, [add(4, 0, -1)], [], [(0, [(0, -1)])] + self.ROWS)
        self.becomes(self.ROWS, [add(4, 10, 0)], [], self.ROWS + [(10, [(0, 0)])])
        self.becomes(self.ROWS, [(4, 4, 5, (GONE, ("is", 6)))], [], [self.ROWS[0], (4, [(0, 6)])] + self.ROWS[1:])
        for note in (up(4, 4, 5, 1), level(4, 4, 5, 1), wipe(4, 4, 5)):
            self.becomes(self.ROWS, [note], [], self.ROWS)

    def test_a_note_of_one_key_at_a_key_with_a_row(self):
        for note, value in [(put(4, 5, 1), 1), (add(4, 5, 1), 21), (up(4, 5, 6, -1), 19), (level(4, 5, 6, 0), 0)]:
            self.becomes(self.ROWS, [note], [], [self.ROWS[0], (5, [(0, value)]), self.ROWS[2]])

    def test_a_stretch_over_rows_and_gaps(self):
        self.becomes(self.ROWS, [up(4, 4, 9, 1)], [], [self.ROWS[0], (5, [(0, 21)]), self.ROWS[2]])
        self.becomes(self.ROWS, [up(4, 3, 10, 1)], [], [(3, [(0, 11)]), (5, [(0, 21)]), (9, [(0, 31)])])
        self.becomes(self.ROWS, [level(4, 0, 6, 7)], [], [(3, [(0, 7)]), (5, [(0, 7)]), self.ROWS[2]])
        self.becomes(self.ROWS, [up(4, 6, 9, 1), wipe(5, 4, 5), level(6, 10, END, 1)], [], self.ROWS)

    def test_an_action_that_changes_nothing(self):
        same = [up(4, 0, END, 0), level(5, 5, 6, 20), put(6, 9, 30), add(7, 3, 0)]
        self.becomes(self.ROWS, same, [], self.ROWS)
        self.becomes(self.ROWS, same, [2, 4, 5, 6], self.ROWS)

    def test_a_row_that_goes(self):
        self.becomes(self.ROWS, [wipe(4, 5, 6)], [], [self.ROWS[0], self.ROWS[2]])
        self.becomes(self.ROWS, [wipe(4, 0, END)], [], [])
        marked = [(5, [(0, 20), (3, None)]), (9, [(0, 30), (3, None)])]
        self.becomes(self.ROWS, [wipe(4, 5, 10)], [2], self.ROWS[:1] + marked)
        self.becomes(self.ROWS, [wipe(4, 5, 10)], [4], [self.ROWS[0]])

    def test_a_row_that_comes_and_goes(self):
        self.becomes(self.ROWS, [put(4, 4, 1), wipe(5, 4, 5)], [], self.ROWS)
        self.becomes([], [put(4, 4, 1), wipe(5, 4, 5)], [4], [(4, [(0, 1), (5, None)])])
        self.becomes([], [put(4, 4, 1), wipe(6, 0, 9), put(8, 4, 2)], [4, 7], [(4, [(0, 1), (5, None), (8, 2)])])

    def test_several_notes_in_a_row(self):
        notes = [put(4, 5, 1), up(6, 0, 9, 2), add(8, 5, 3)]
        rows = [(5, [(0, 20)])]
        self.becomes(rows, notes, [], [(5, [(0, 6)])])
        self.becomes(rows, notes, [3], [(5, [(0, 20), (4, 6)])])
        self.becomes(rows, notes, [4], [(5, [(0, 1), (5, 6)])])
        self.becomes(rows, notes, [5, 7], [(5, [(0, 1), (6, 3), (8, 6)])])
        self.becomes(rows, notes, [2, 3, 5, 7, 9], [(5, [(0, 20), (4, 1), (6, 3), (8, 6)])])
        self.becomes(rows, notes, [8], [(5, [(0, 6)])])

    def test_versions_that_are_there_stay_for_their_marks(self):
        rows = [(5, [(0, 20), (4, None)]), (7, [(4, 1)])]
        self.becomes(rows, [add(6, 5, 2)], [3, 5], [(5, [(0, 20), (4, None), (6, 2)]), (7, [(4, 1)])])
        self.becomes(rows, [add(6, 5, 2), up(7, 0, 9, 1)], [], [(5, [(0, 3)]), (7, [(0, 2)])])

    def test_a_last_version_of_none(self):
        rows = [(5, [(0, 20), (4, None)])]
        self.becomes(rows, [up(6, 0, 9, 2)], [3], [(5, [(0, 20), (4, None)])])
        self.becomes(rows, [level(6, 5, 6, 2)], [3], [(5, [(0, 20), (4, None)])])
        self.becomes(rows, [put(6, 5, 2)], [3], [(5, [(0, 20), (4, 2)])])

    def test_notes_out_of_the_order_of_their_numbers(self):
        self.becomes([], [put(9, 3, 1), put(4, 5, 2), up(11, 0, 9, 1)], [], [(3, [(0, 2)]), (5, [(0, 3)])])
        self.becomes([], [put(9, 3, 1), put(4, 5, 2)], [6], [(3, [(7, 1)]), (5, [(0, 2)])])

    def test_what_is_seen_is_what_the_notes_make_of_it(self):
        chance = random.Random(23)
        for turn in range(600):
            marks = some_marks(chance, 40)
            rows = some_rows(chance, 20)
            notes = []
            for number in sorted(chance.sample(range(21, 40), chance.randint(0, 6))):
                low, high = sorted(chance.sample(range(10), 2))
                n = chance.randint(-2, 2)
                kinds = [put(number, low, n), add(number, low, n), wipe(number, low, low + 1), up(number, low, high, n)]
                notes.append(chance.choice(kinds + [level(number, low, high, n), wipe(number, low, high)]))
            made = rows_behind(rows, notes, marks)
            self.assertEqual([key for key, versions in made], sorted(set(key for key, versions in made)))
            for key in range(10):
                for at in marks + [None]:
                    value = told_of(rows, key, at)
                    for number, low, high, action in notes:
                        if low <= key < high and (at is None or number <= at):
                            value = acts(action, value)
                    self.assertEqual(told_of(made, key, at), value)

    def test_handed_in_by_name(self):
        self.assertEqual(rows_behind(marks=[], notes=[put(1, 2, 3)], rows=[]), [(2, [(0, 3)])])


class Halves(unittest.TestCase):
    def test_written_out(self):
        rows = [
            (1, 1, [1]), (1, 5, [1]), (3, 5, [3]), (5, 5, [5]), (6, 5, [3, 3]), (7, 3, [3, 2, 2]), (8, 3, [3, 3, 2]),
            (9, 3, [3, 3, 3]), (10, 3, [3, 3, 2, 2]), (4, 1, [1, 1, 1, 1]), (2, 1, [1, 1]), (11, 5, [4, 4, 3]),
            (65, 64, [33, 32]), (17, 16, [9, 8]),
        ]
        for many, most, lengths in rows:
            with self.subTest(many=many, most=most):
                parts = halves(list(range(many)), most)
                self.assertEqual([len(part) for part in parts], lengths)
                self.assertEqual(sum(parts, []), list(range(many)))

    def test_as_few_and_as_even_as_may_be_greater_ones_first(self):
        for many in list(range(1, 60)) + [300, 399, 400, 401]:
            for most in (1, 2, 3, 5, 7, 16, 64, 400, 1000):
                lengths = [len(part) for part in halves(list(range(many)), most)]
                with self.subTest(many=many, most=most):
                    self.assertEqual(sum(lengths), many)
                    self.assertLessEqual(max(lengths), most)
                    self.assertLess(most * (len(lengths) - 1), many)
                    self.assertLessEqual(max(lengths) - min(lengths), 1)
                    self.assertEqual(lengths, sorted(lengths, reverse=True))

    def test_what_is_told_are_new_lists(self):
        for most in (1, 2, 3, 9):
            things = [1, 2, 3]
            parts = halves(things, most)
            for part in parts:
                part.append("more")
            parts.append("more")
            with self.subTest(most):
                self.assertEqual(things, [1, 2, 3])

    def test_things_of_any_kind_stay_themselves(self):
        things = [None, "a", (1, 2), [3], 0]
        parts = halves(things, 2)
        self.assertEqual(parts, [[None, "a"], [(1, 2), [3]], [0]])
        self.assertIs(parts[1][1], things[3])

    def test_handed_in_by_name(self):
        self.assertEqual(halves(most=2, things=[1, 2, 3]), [[1, 2], [3]])


if __name__ == "__main__":
    unittest.main()
