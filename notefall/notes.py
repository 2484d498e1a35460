"""Notes: what a deed does to a stretch of keys, with the deed's number."""

from notefall.actions import GONE, is_action
from notefall.errors import NoNote
from notefall.wholes import check_key, check_stretch, is_stretch, is_whole_from


def is_note(thing):
    """Whether it is a note."""
    if not isinstance(thing, tuple) or len(thing) != 4:
        return False
    number, low, high, action = thing
    if not is_whole_from(number, 1) or not is_stretch(low, high) or not is_action(action):
        return False
    # A value given to each key of a wide stretch would be more rows than can be kept.
    return high - low == 1 or action[1] == GONE


def check_note(thing):
    """Refuses what is no note."""
    if not is_note(thing):
        raise NoNote("no note")


def has_key(note, key):
    """Whether the key is in the stretch of what is known to be a note."""
    return note[1] <= key < note[2]


def have_common(note, other):
    """Whether some key is in both stretches of what are known to be notes."""
    return note[1] < other[2] and other[1] < note[2]


def cut(note, low, high):
    """What a note has from low to high, which need not be a stretch; None where that is no key."""
    number, note_low, note_high, action = note
    first = max(note_low, low)
    end = min(note_high, high)
    return (number, first, end, action) if first < end else None


def reached(note, table):
    """The keys whose values the note may change, of a dict with all keys that have a value."""
    number, low, high, action = note
    if high - low == 1:
        # A note of one key alone may give a value to a key that has none.
        return [low]
    return [key for key in table if low <= key < high]


def touches(note, key):
    """Whether the key is in the note's stretch."""
    check_note(note)
    check_key(key)
    return has_key(note, key)


def shares(note, other):
    """Whether some key is in both notes' stretches."""
    check_note(note)
    check_note(other)
    return have_common(note, other)


def part(note, low, high):
    """The note with what its stretch and this one hold in common, None where that is no key."""
    check_note(note)
    check_stretch(low, high)
    return cut(note, low, high)
