"""Leaves: rows of keys with the versions of their values."""

from notefall.actions import does
from notefall.notes import reached


def value_of(versions, *, at=None):
    """The last version's value; where at is a number, that of the last one up to it, None where there is none."""
    value = None
    for number, other in versions:
        if at is None or number <= at:
            value = other
    return value


def put_behind(table, note):
    """Does a note to a dict of versions by keys."""
    keys = reached(note, table)
    for key in keys:
        versions = table.get(key, [])
        old = value_of(versions)
        new = does(note[3], old)
        if new != old:
            table[key] = versions + [(note[0], new)]


def rows_behind(rows, notes, marks):
    """The rows behind a tray's notes."""
    table = {key: versions for key, versions in rows}
    for note in notes:
        put_behind(table, note)
    return swept([(key, table[key]) for key in sorted(table)], marks)


def sights_of(versions, marks):
    """What is seen at each mark, and now."""
    sights = []
    sight = None
    place = 0
    # Versions and marks both rise, so one walk over both is enough, however many there are.
    for mark in marks:
        while place < len(versions) and versions[place][0] <= mark:
            sight = versions[place][1]
            place += 1
        sights.append(sight)
    return sights + [value_of(versions)]


def swept_versions(versions, marks):
    """The versions that tell no more than what is seen at the marks and now."""
    # None looks ahead of the first mark, so what it sees may as well have stood from 0 on.
    starts = [0] + [mark + 1 for mark in marks]
    told = []
    last = None
    for start, sight in zip(starts, sights_of(versions, marks)):
        if sight != last:
            told.append((start, sight))
        last = sight
    return told


def swept(rows, marks):
    """The rows with what is seen at the marks and now, and no more."""
    told = [(key, swept_versions(versions, marks)) for key, versions in rows]
    return [(key, versions) for key, versions in told if versions]


def halves(things, most):
    """The things in order in as few lists as hold at most most each, as even as may be, greater ones first."""
    many = (len(things) + most - 1) // most
    size = len(things) // many
    greater = len(things) - size * many
    parts = []
    start = 0
    for place in range(many):
        end = start + size + (1 if place < greater else 0)
        parts.append(things[start:end])
        start = end
    return parts
