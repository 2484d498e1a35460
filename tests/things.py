"""What the tests share: things that are no whole numbers, notes, and the plain map of a row of deeds."""

from fractions import Fraction

from notefall.wholes import END


class Plain:
    """An object of some other class."""


class Sore:
    """An object that can't be compared, measured, asked for its truth or kept as a key."""

    __hash__ = None

    def sore(self, *others):
        raise RuntimeError("this object was asked")

    __eq__ = __ne__ = __lt__ = __le__ = __gt__ = __ge__ = sore
    __bool__ = __len__ = __iter__ = __contains__ = __getitem__ = sore
    __int__ = __index__ = __str__ = __repr__ = __add__ = __radd__ = sore


class Agreeing:
    """An object that is equal to everything, and above and below it."""

    __hash__ = None

    def agree(self, other):
        return True

    __eq__ = __lt__ = __le__ = __gt__ = __ge__ = agree


TRUTHS = [True, False]

OTHERS = TRUTHS + [
    None, "", "0", "1", "7", "x", b"", b"7", [], [1], (), (1,), (0, 1), {}, {1: 2}, set(), {1},
    frozenset([1]), bytearray(b"1"), 0.0, 1.0, 3.5, float("inf"), float("nan"), 1j, Fraction(3), range(3),
    object(), Plain(), Plain, int, len, lambda: 1, NotImplemented, ..., Sore(), Agreeing(),
]


def put(number, key, value):
    return (number, key, key + 1, (("is", value), ("is", value)))


def add(number, key, by):
    return (number, key, key + 1, (("plus", by), ("is", by)))


def up(number, low, high, by):
    return (number, low, high, (("plus", by), ("gone",)))


def level(number, low, high, value):
    return (number, low, high, (("is", value), ("gone",)))


def wipe(number, low, high):
    return (number, low, high, (("gone",), ("gone",)))


def some_deed(chance, keys, kept):
    """A deed on some of these keys, or one with a mark."""
    low, high = sorted(chance.sample(keys + [END], 2))
    key = chance.choice(keys)
    n = chance.randint(-3, 3)
    deeds = [("put", key, n)] * 9 + [("drop", key), ("add", key, n), ("add", key, n), ("wipe", low, high)]
    deeds += [("raise", low, high, n), ("raise", low, high, n), ("level", low, high, n), ("mark",)]
    return chance.choice(deeds + [("forget", mark) for mark in kept[:1]])


def plain_value(deeds, key, at=None):
    """What is left of the key's value when the deeds, or those up to at, are done one behind another."""
    value = None
    for word, *things in deeds if at is None else deeds[:at]:
        if word in ("put", "drop", "add") and things[0] == key:
            value = {"put": things[-1], "drop": None, "add": (value or 0) + things[-1]}[word]
        if word == "wipe" and things[0] <= key < things[1]:
            value = None
        if word in ("raise", "level") and things[0] <= key < things[1] and value is not None:
            value = value + things[2] if word == "raise" else things[2]
    return value
