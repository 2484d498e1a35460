"""Actions: what becomes of a value, and what becomes of none."""

from notefall.errors import NoAction
from notefall.wholes import is_number

GONE = ("gone",)
NOTHING = (("plus", 0), ("gone",))
CLEARING = (("gone",), ("gone",))


def is_half(thing, words):
    """Whether it is one of the words and its number, or ("gone",)."""
    # Only a text is compared: what other things answer to == is their own affair.
    if not isinstance(thing, tuple) or len(thing) not in (1, 2) or not isinstance(thing[0], str):
        return False
    if len(thing) == 1:
        return thing[0] == "gone"
    return thing[0] in words and is_number(thing[1])


def is_action(thing):
    """Whether it is an action."""
    if not isinstance(thing, tuple) or len(thing) != 2:
        return False
    there, none = thing
    # There is nothing to which a "plus" could add where there is no value.
    return is_half(there, ("plus", "is")) and is_half(none, ("is",))


def check_action(thing):
    """Refuses what is no action."""
    if not is_action(thing):
        raise NoAction("no action")


def half_acts(half, value):
    """What one half of an action makes of a value; the value counts for "plus" alone."""
    if half == GONE:
        return None
    word, number = half
    return value + number if word == "plus" else number


def does(action, value):
    """What becomes of a value or None; the action is known to be one."""
    there, none = action
    return half_acts(none if value is None else there, value)


def acts(action, value):
    """What becomes of a value or None."""
    check_action(action)
    return does(action, value)


def half_behind(half, other):
    """The half that does what this half and then the other action does."""
    there, none = other
    if half == GONE:
        return none
    if there[0] != "plus":
        # Whatever value was there, it is gone or another one now.
        return there
    word, number = half
    return (word, number + there[1])


def joined(one, other):
    """The action that does what one and then other does; both are known to be actions."""
    there, none = one
    return (half_behind(there, other), half_behind(none, other))


def behind(one, other):
    """The action that does what one and then other does."""
    check_action(one)
    check_action(other)
    return joined(one, other)
