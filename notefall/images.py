"""Images: which things are images of stores without fault, and the stores that go on from them."""

from notefall.errors import NoImage
from notefall.notes import has_key, have_common
from notefall.shapes import are_rising_from, is_inner_told, is_leaf_told, is_rising
from notefall.store import store_from
from notefall.wholes import END, is_rule, is_whole, is_whole_from


def is_frame(image):
    """Whether it is a tuple of a rule, a last number, marks, a fresh number and a list."""
    if not isinstance(image, tuple) or len(image) != 5:
        return False
    rule, last, marks, fresh, rooms = image
    if not is_rule(rule) or not is_whole_from(last, 0) or not are_rising_from(marks, 1):
        return False
    return all([mark <= last for mark in marks]) and is_whole_from(fresh, 1) and isinstance(rooms, list)


def are_beneath(notes, others):
    """Whether each of the notes has a lesser number than all of the others that share a key with it."""
    return all([note[0] < other[0] for note in notes for other in others if have_common(note, other)])


def is_tray(notes):
    """Whether of two notes that share a key the one further on has the greater number."""
    return all([are_beneath([note], notes[place + 1:]) for place, note in enumerate(notes)])


def are_within(notes, low, high, last):
    """Whether all notes lie within the stretch and have numbers up to last."""
    return all([low <= note[1] and note[2] <= high and note[0] <= last for note in notes])


def is_row_beneath(row, notes, last):
    """Whether a row's versions have numbers up to last, lesser than those of the notes that touch its key."""
    key, versions = row
    # Versions rise, so the last one's number stands for all.
    number = versions[-1][0]
    return number <= last and all([number < note[0] for note in notes if has_key(note, key)])


class Survey:
    """The rooms of an image as they are looked at one by one.

    What is due are tuples for the rooms that are told and have not come yet, the next one last: the number (None for
    the top room), the stretch, and the list of the trays above.
    """

    def __init__(self, rule, last, fresh):
        self.rule = rule
        self.last = last
        self.fresh = fresh
        self.due = [(None, 0, END, [])]
        self.known = {}
        # How many rooms the first leaf has above it.
        self.floors = None

    def takes(self, room):
        """Whether the next room is without fault; where it is, the rooms that it tells are due."""
        if len(self.due) == 0 or not (is_leaf_told(room) or is_inner_told(room)):
            return False
        number, low, high, trays = self.due.pop()
        if not self.may_have(room[1], number):
            return False
        self.known[room[1]] = True
        notes = [note for tray in trays for note in tray]
        if room[0] == "leaf":
            return self.is_leaf_sound(room, low, high, notes) and self.has_floors(len(trays))
        if not self.is_inner_sound(room, low, high, notes):
            return False
        self.await_children(room, low, high, trays)
        return True

    def may_have(self, number, due):
        """Whether a room may have this number where that one is due."""
        return due in (None, number) and is_whole(number, 0, self.fresh - 1) and number not in self.known

    def is_leaf_sound(self, leaf, low, high, notes):
        """Whether the leaf fits its stretch and the notes of the rooms above."""
        tray, fan, most, plan = self.rule
        rows = leaf[2]
        if len(rows) > most or not all([low <= key < high for key, versions in rows]):
            return False
        return all([is_row_beneath(row, notes, self.last) for row in rows])

    def has_floors(self, many):
        """Whether a leaf with so many rooms above it has as many as the first one."""
        if self.floors is None:
            self.floors = many
        return self.floors == many

    def is_inner_sound(self, inner, low, high, notes):
        """Whether the inner room fits its stretch and the notes of the rooms above."""
        most, fan, rows, plan = self.rule
        word, number, pivots, children, tray = inner
        if len(children) > fan or len(children) != len(pivots) + 1 or not is_rising([low] + pivots + [high]):
            return False
        if len(tray) > most or not are_within(tray, low, high, self.last):
            return False
        return is_tray(tray) and are_beneath(tray, notes)

    def await_children(self, inner, low, high, trays):
        """Makes the children of an inner room the next ones that are due."""
        word, number, pivots, children, tray = inner
        told = list(zip(children, [low] + pivots, pivots + [high]))
        self.due = self.due + [(child, first, end, trays + [tray]) for child, first, end in told[::-1]]


def image_fault(image):
    """None where it is an image without fault, -1 where it isn't even a tuple of such things, else the place of the
    first room at fault, or behind the last one where one lacks."""
    if not is_frame(image):
        return -1
    rule, last, marks, fresh, rooms = image
    survey = Survey(rule, last, fresh)
    for place, room in enumerate(rooms):
        if not survey.takes(room):
            return place
    return len(rooms) if survey.due else None


def store_of(image):
    """A store that goes on from an image."""
    fault = image_fault(image)
    if fault is not None:
        raise NoImage(fault)
    return store_from(image)
