"""What the tests share: things that are no whole numbers, notes, and the plain map of a row of deeds."""

from fractions import Fraction

from notefall.wholes import END


class Plain:
    """An object of some other class."""


class Sore:
    """An object that can't be compared, measured, asked for its truth or kept as a key."""

    __hash__ = None

    def sore(self, *others):
        raise RuntimeError("this object was asked")

    __eq__ = __ne__ = __lt__ = __le__ = __gt__ = __ge__ = sore
    __bool__ = __len__ = __iter__ = __contains__ = __getitem__ = sore
    __int__ = __index__ = __str__ = __repr__ = __add__ = __radd__ = sore


class Agreeing:
    """An object that is equal to everything, and above and below it."""

    __hash__ = None

    def agree(self, other):
        return True

    __eq__ = __lt__ = __le__ = __gt__ = __ge__ = agree


TRUTHS = [True, False]

OTHERS = TRUTHS + [
    None, "", "0", "1", "7", "x", b"", b"7", [], [1], (), (1,), (0, 1), {}, {1: 2}, set(), {1},
    frozenset([1]), bytearray(b"1"), 0.0, 1.0, 3.5, float("inf"), float("nan"), 1j, Fraction(3), range(3),
    object(), Plain(), Plain, int, len, lambda: 1, NotImplemented, ..., Sore(), Agreeing(),
]


def put(number, key, value):
    return (number, key, key + 1, (("is", value), ("is", value)))


def add(number, key, by):
    return (number, key, key + 1, (("plus", by), ("is", by)))


def up(number, low, high, by):
    return (number, low, high, (("plus", by), ("gone",)))


def level(number, low, high, value):
    return (number, low, high, (("is", value), ("gone",)))


def wipe(number, low, high):
    return (number, low, high, (("gone",), ("gone",)))


def some_deed(chance, keys, kept):
    """A deed on some of these keys, or one with a mark."""
    low, high = sorted(chance.sample(keys + [END], 2))
    key = chance.choice(keys)
    n = chance.randint(-3, 3)
    deeds = [("put", key, n)] * 9 + [("drop", key), ("add", key, n), ("add", key, n), ("wipe", low, high)]
    deeds += [("raise", low, high, n), ("raise", low, high, n), ("level", low, high, n), ("mark",)]
    return chance.choice(deeds + [("forget", mark) for mark in kept[:1]])


def plain_value(deeds, key, at=None):
    """What is left of the key's value when the deeds, or those up to at, are done one behind another."""
    value = None
    for word, *things in deeds if at is None else deeds[:at]:
        if word in ("put", "drop", "add") and things[0] == key:
            value = {"put": things[-1], "drop": None, "add": (value or 0) + things[-1]}[word]
        if word == "wipe" and things[0] <= key < things[1]:
            value = None
        if word in ("raise", "level") and things[0] <= key < things[1] and value is not None:
            value = value + things[2] if word == "raise" else things[2]
    return value


class PlainMap:
    """The plain map of a row of deeds, now and at each kept mark, with no rooms at all."""

    def __init__(self):
        self.last = 0
        self.now = {}
        self.kept = {}

    def do(self, told):
        self.last += 1
        word, *things = told
        if word == "mark":
            self.kept[self.last] = dict(self.now)
        elif word == "forget":
            del self.kept[things[0]]
        elif word == "put":
            self.now[things[0]] = things[1]
        elif word == "drop":
            self.now.pop(things[0], None)
        elif word == "add":
            self.now[things[0]] = self.now.get(things[0], 0) + things[1]
        else:
            self.do_to_all(word, [key for key in self.now if things[0] <= key < things[1]], things[-1])
        return self.last

    def do_to_all(self, word, keys, n):
        for key in keys:
            if word == "wipe":
                del self.now[key]
            else:
                self.now[key] = n if word == "level" else self.now[key] + n

    def marks(self):
        return sorted(self.kept)

    def sight(self, at=None):
        """The tuples of key and value, keys rising."""
        return sorted((self.now if at is None else self.kept[at]).items())


def check_image(case, image):
    """The image has the form, the order and the bounds that it is to have, as far as a store's own rule tells."""
    rule, last, marks, fresh, rooms = image
    waiting = [(None, 0, END, [])]
    numbers = []
    depths = []
    for room in rooms:
        case.assertIs(type(room), tuple)
        number, low, high, above = waiting.pop(0)
        case.assertIn(number, (None, room[1]))
        case.assertNotIn(room[1], numbers)
        case.assertTrue(0 <= room[1] < fresh)
        numbers.append(room[1])
        if room[0] == "leaf":
            check_leaf(case, room, low, high, above, rule, last)
            depths.append(len(above))
        else:
            check_inner(case, room, low, high, above, rule, last)
            edges = [low] + room[2] + [high]
            waiting = [(*child, above + [room[4]]) for child in zip(room[3], edges, edges[1:])] + waiting
    case.assertEqual(waiting, [])
    case.assertEqual(len(set(depths)), 1)
    case.assertTrue(marks == sorted(set(marks)) and all(1 <= mark <= last for mark in marks))


def check_leaf(case, room, low, high, above, rule, last):
    word, number, rows = room
    keys = [key for key, versions in rows]
    case.assertEqual(keys, sorted(set(keys)))
    case.assertTrue(all(low <= key < high for key in keys))
    case.assertLessEqual(len(rows), rule[2])
    for key, versions in rows:
        told = [number for number, value in versions]
        case.assertTrue(told and told == sorted(set(told)) and told[0] >= 0)
        notes = [note[0] for tray in above for note in tray if note[1] <= key < note[2]]
        case.assertLess(told[-1], min(notes + [last + 1]))


def check_inner(case, room, low, high, above, rule, last):
    word, number, pivots, children, tray = room
    edges = [low] + pivots + [high]
    case.assertEqual(edges, sorted(set(edges)))
    case.assertTrue(len(pivots) + 1 == len(children) <= rule[1])
    case.assertLessEqual(len(tray), rule[0])
    for at, note in enumerate(tray):
        case.assertTrue(low <= note[1] < note[2] <= high and 1 <= note[0] <= last)
        greater = [other for notes in above + [tray[at + 1:]] for other in notes]
        for other in greater:
            case.assertTrue(other[0] > note[0] or other[2] <= note[1] or note[2] <= other[1])
