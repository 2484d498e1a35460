"""Whole numbers, and what is told by them alone: keys, stretches and rules."""

from notefall.errors import NoKey, NoStretch

END = 10 ** 12

MOST_TRAY = 64
LEAST_FAN = 3
MOST_FAN = 16
MOST_ROWS = 64
PLANS = ("fullest", "eldest")


def is_number(thing):
    """Whether it is a whole number, however great."""
    # A truth is an int to Python, so it is turned away by name.
    return isinstance(thing, int) and not isinstance(thing, bool)


def is_whole(thing, low, high):
    """Whether it is a whole number from low to high."""
    return is_number(thing) and low <= thing <= high


def is_whole_from(thing, low):
    """Whether it is a whole number from low on, however great."""
    return is_number(thing) and low <= thing


def is_key(thing):
    """Whether it is a key."""
    return is_whole(thing, 0, END - 1)


def is_stretch(low, high):
    """Whether the two tell a stretch."""
    return is_whole(low, 0, END) and is_whole(high, 0, END) and low < high


def check_key(thing):
    """Refuses what is no key."""
    if not is_key(thing):
        raise NoKey("no key")


def check_stretch(low, high):
    """Refuses what tells no stretch."""
    if not is_stretch(low, high):
        raise NoStretch("no stretch")


def is_plan(thing):
    """Whether it is a rule's plan."""
    # Only a text is compared: what other things answer to == is their own affair.
    return isinstance(thing, str) and thing in PLANS


def is_rule(thing):
    """Whether it is a rule."""
    if not isinstance(thing, tuple) or len(thing) != 4:
        return False
    tray, fan, rows, plan = thing
    if not is_whole(tray, 1, MOST_TRAY) or not is_whole(fan, LEAST_FAN, MOST_FAN):
        return False
    return is_whole(rows, 1, MOST_ROWS) and is_plan(plan)
