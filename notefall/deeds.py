"""Deeds: what can be done to a store, as tuples, as objects and in words."""

from notefall.actions import CLEARING, GONE
from notefall.errors import NoDeed
from notefall.figures import figures_of, read_figures
from notefall.wholes import is_key, is_stretch, is_whole, is_whole_from

MOST_VALUE = 10 ** 30

# How many things each deed's tuple has, its word too.
THINGS = {"put": 3, "drop": 2, "add": 3, "wipe": 3, "raise": 4, "level": 4, "mark": 1, "forget": 2}

# What a deed's class gets for a thing too many where there is none.
NO_MORE = "no more"


def is_amount(thing):
    """Whether it is a value, or what is added to one, that a deed may have."""
    return is_whole(thing, -MOST_VALUE, MOST_VALUE)


def check_things(fit, more):
    """Refuses the making of a deed where its things don't fit or are too many."""
    # A class takes None, which fits nowhere, for a thing too few, and more for one too many:
    # so both are refused as any other deed that is none.
    if not fit or not isinstance(more, str) or more != NO_MORE:
        raise NoDeed("no deed")


def word_of(thing):
    """One thing of a deed's tuple in words."""
    return thing if isinstance(thing, str) else figures_of(thing)


class Deed:
    """Any deed. It isn't made by itself."""

    def told(self):
        """The deed as a tuple."""
        return ()

    def action(self):
        """What it does to each key that it touches; None where it touches no key."""
        return None

    def span(self):
        """The low and high of the keys that it touches; None where it touches no key."""
        return None

    def note(self, number):
        """Its note with this number; None where it touches no key."""
        span = self.span()
        if span is None:
            return None
        low, high = span
        return (number, low, high, self.action())

    def __str__(self):
        return " ".join([word_of(thing) for thing in self.told()])

    def __eq__(self, other):
        return isinstance(other, Deed) and self.told() == other.told()


class Put(Deed):
    """Gives a key a value."""

    def __init__(self, key=None, value=None, more=NO_MORE):
        check_things(is_key(key) and is_amount(value), more)
        self.key = key
        self.value = value

    def told(self):
        return ("put", self.key, self.value)

    def action(self):
        return (("is", self.value), ("is", self.value))

    def span(self):
        return (self.key, self.key + 1)


class Drop(Deed):
    """Takes a key's value away."""

    def __init__(self, key=None, more=NO_MORE):
        check_things(is_key(key), more)
        self.key = key

    def told(self):
        return ("drop", self.key)

    def action(self):
        return CLEARING

    def span(self):
        return (self.key, self.key + 1)


class Add(Deed):
    """Adds to a key's value; a key without one gets what is added."""

    def __init__(self, key=None, by=None, more=NO_MORE):
        check_things(is_key(key) and is_amount(by), more)
        self.key = key
        self.by = by

    def told(self):
        return ("add", self.key, self.by)

    def action(self):
        return (("plus", self.by), ("is", self.by))

    def span(self):
        return (self.key, self.key + 1)


class Wipe(Deed):
    """Takes the values of a stretch away."""

    def __init__(self, low=None, high=None, more=NO_MORE):
        check_things(is_stretch(low, high), more)
        self.low = low
        self.high = high

    def told(self):
        return ("wipe", self.low, self.high)

    def action(self):
        return CLEARING

    def span(self):
        return (self.low, self.high)


class Raise(Deed):
    """Adds to each value of a stretch."""

    def __init__(self, low=None, high=None, by=None, more=NO_MORE):
        check_things(is_stretch(low, high) and is_amount(by), more)
        self.low = low
        self.high = high
        self.by = by

    def told(self):
        return ("raise", self.low, self.high, self.by)

    def action(self):
        return (("plus", self.by), GONE)

    def span(self):
        return (self.low, self.high)


class Level(Deed):
    """Gives each key of a stretch that has a value this one."""

    def __init__(self, low=None, high=None, value=None, more=NO_MORE):
        check_things(is_stretch(low, high) and is_amount(value), more)
        self.low = low
        self.high = high
        self.value = value

    def told(self):
        return ("level", self.low, self.high, self.value)

    def action(self):
        return (("is", self.value), GONE)

    def span(self):
        return (self.low, self.high)


class Mark(Deed):
    """Keeps what is read now under the deed's number."""

    def __init__(self, more=NO_MORE):
        check_things(True, more)

    def told(self):
        return ("mark",)


class Forget(Deed):
    """Lets a kept mark go."""

    def __init__(self, mark=None, more=NO_MORE):
        check_things(is_whole_from(mark, 1), more)
        self.mark = mark

    def told(self):
        return ("forget", self.mark)


def has_form(told):
    """Whether it is a tuple of a deed's word and as many things as go with it."""
    if not isinstance(told, tuple) or len(told) == 0 or not isinstance(told[0], str):
        return False
    return told[0] in THINGS and len(told) == THINGS[told[0]]


def deed_of(told):
    """The deed that the tuple tells."""
    if not has_form(told):
        raise NoDeed("no deed")
    word = told[0]
    if word == "put":
        return Put(told[1], told[2])
    if word == "drop":
        return Drop(told[1])
    if word == "add":
        return Add(told[1], told[2])
    if word == "wipe":
        return Wipe(told[1], told[2])
    if word == "raise":
        return Raise(told[1], told[2], told[3])
    if word == "level":
        return Level(told[1], told[2], told[3])
    if word == "mark":
        return Mark()
    return Forget(told[1])


def read_words(text):
    """The deed whose words the text has."""
    if not isinstance(text, str):
        raise NoDeed("no text")
    word, *numbers = text.split(" ")
    # What is no number is None here, and no deed has None among its things.
    return deed_of((word,) + tuple([read_figures(number) for number in numbers]))
