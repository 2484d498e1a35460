"""Trays: lists of notes, in which of two that share a key the one further on has the greater number."""

from notefall.actions import does, joined
from notefall.notes import cut, has_key, have_common
from notefall.wholes import END


def up_to(tray, at):
    """The notes of numbers up to at, in order; all of them where at is None."""
    return [note for note in tray if at is None or note[0] <= at]


def touching(tray, key):
    """The notes that touch the key, in order."""
    return [note for note in tray if has_key(note, key)]


def within(tray, low, high):
    """The parts of the notes within the stretch, in order."""
    parts = [cut(note, low, high) for note in tray]
    return [piece for piece in parts if piece is not None]


def without(tray, low, high):
    """What the notes have outside of the stretch: of each in order what lies below it, then what lies beyond."""
    parts = [cut(note, first, end) for note in tray for first, end in ((0, low), (high, END))]
    return [piece for piece in parts if piece is not None]


def seen(tray, key, value, *, at=None):
    """What becomes of a value or None at the key; where at is a number, by the notes up to it alone."""
    for note in touching(up_to(tray, at), key):
        value = does(note[3], value)
    return value


def last_sharing(tray, note):
    """The place of the last note in the tray that shares a key with this one, None where none does."""
    places = [place for place, other in enumerate(tray) if have_common(other, note)]
    return places[-1] if places else None


def may_join(elder, note, marks):
    """Whether the two may become one note, with none to see that the elder was there by itself."""
    if elder[1] != note[1] or elder[2] != note[2]:
        return False
    return not any([elder[0] <= mark < note[0] for mark in marks])


def laid(tray, note, marks):
    """The tray behind the laying of a note."""
    place = last_sharing(tray, note)
    if place is None or not may_join(tray[place], note, marks):
        return tray + [note]
    number, low, high, action = note
    both = (number, low, high, joined(tray[place][3], action))
    return tray[:place] + tray[place + 1:] + [both]


def poured(tray, low, high):
    """Two trays: what the notes have within the stretch, and what is left of them."""
    return (within(tray, low, high), without(tray, low, high))
