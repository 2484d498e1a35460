"""Shapes: which things are rooms told as tuples, each looked at by itself."""

from notefall.notes import is_note
from notefall.wholes import is_key, is_number, is_whole_from


def is_rising(numbers):
    """Whether each whole number of a list is greater than the one ahead of it."""
    return all([one < other for one, other in zip(numbers, numbers[1:])])


def are_wholes(thing):
    """Whether it is a list of whole numbers."""
    return isinstance(thing, list) and all([is_number(part) for part in thing])


def are_rising_from(thing, low):
    """Whether it is a list of whole numbers from low on, rising."""
    return are_wholes(thing) and all([low <= number for number in thing]) and is_rising(thing)


def is_version(thing):
    """Whether it is a version: a number and a value or None."""
    if not isinstance(thing, tuple) or len(thing) != 2:
        return False
    number, value = thing
    return is_whole_from(number, 0) and (value is None or is_number(value))


def are_versions(thing):
    """Whether it is a row's list of versions."""
    if not isinstance(thing, list) or len(thing) == 0 or not all([is_version(part) for part in thing]):
        return False
    return is_rising([number for number, value in thing])


def is_row(thing):
    """Whether it is a row."""
    return isinstance(thing, tuple) and len(thing) == 2 and is_key(thing[0]) and are_versions(thing[1])


def are_rows(thing):
    """Whether it is a list of leaf rows."""
    if not isinstance(thing, list) or not all([is_row(part) for part in thing]):
        return False
    return is_rising([key for key, versions in thing])


def are_notes(thing):
    """Whether it is a list of notes, in whatever order."""
    return isinstance(thing, list) and all([is_note(part) for part in thing])


def has_word(thing, word, many):
    """Whether it is a tuple of so many things of which the first one is the word."""
    if not isinstance(thing, tuple) or len(thing) != many:
        return False
    # Only a text is compared: what other things answer to == is their own affair.
    return isinstance(thing[0], str) and thing[0] == word


def is_leaf_told(thing):
    """Whether it is a leaf as a tuple."""
    return has_word(thing, "leaf", 3) and is_number(thing[1]) and are_rows(thing[2])


def is_inner_told(thing):
    """Whether it is an inner room as a tuple; whether its things fit one another isn't looked at."""
    if not has_word(thing, "inner", 5):
        return False
    word, number, pivots, children, tray = thing
    return is_number(number) and are_wholes(pivots) and are_wholes(children) and are_notes(tray)
