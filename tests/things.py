"""Things that are no whole numbers, for what must answer of anything."""

from fractions import Fraction


class Plain:
    """An object of some other class."""


class Sore:
    """An object that can't be compared, measured, asked for its truth or kept as a key."""

    __hash__ = None

    def sore(self, *others):
        raise RuntimeError("this object was asked")

    __eq__ = __ne__ = __lt__ = __le__ = __gt__ = __ge__ = sore
    __bool__ = __len__ = __iter__ = __contains__ = __getitem__ = sore
    __int__ = __index__ = __str__ = __repr__ = __add__ = __radd__ = sore


class Agreeing:
    """An object that is equal to everything, and above and below it."""

    __hash__ = None

    def agree(self, other):
        return True

    __eq__ = __lt__ = __le__ = __gt__ = __ge__ = agree


TRUTHS = [True, False]

OTHERS = TRUTHS + [
    None, "", "0", "1", "7", "x", b"", b"7", [], [1], (), (1,), (0, 1), {}, {1: 2}, set(), {1},
    frozenset([1]), bytearray(b"1"), 0.0, 1.0, 3.5, float("inf"), float("nan"), 1j, Fraction(3), range(3),
    object(), Plain(), Plain, int, len, lambda: 1, NotImplemented, ..., Sore(), Agreeing(),
]
