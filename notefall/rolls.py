"""Rolls: all rooms of a tree in the image's order, as objects and as tuples."""

from notefall.rooms import Inner, Leaf, stretches
from notefall.wholes import END


def children_of(room, low, high):
    """Tuples of each child of an inner room of this stretch and the child's own."""
    return [(child, first, end) for child, (first, end) in zip(room.children, stretches(room, low, high))]


def all_rooms(top):
    """Tuples of each room and its stretch: a room, then its first child with all beneath it, then the next child."""
    told = []
    waiting = [(top, 0, END)]
    while waiting:
        room, low, high = waiting.pop()
        told.append((room, low, high))
        if isinstance(room, Inner):
            waiting = waiting + children_of(room, low, high)[::-1]
    return told


def own_rows(rows):
    """Leaf rows that share no list with these."""
    return [(key, list(versions)) for key, versions in rows]


def room_told(room):
    """A room as a tuple, its lists the asker's own."""
    if isinstance(room, Leaf):
        return ("leaf", room.number, own_rows(room.rows))
    numbers = [child.number for child in room.children]
    return ("inner", room.number, list(room.pivots), numbers, list(room.tray))


def roll_of(top):
    """All rooms as tuples."""
    return [room_told(room) for room, low, high in all_rooms(top)]


def room_made(told, made):
    """The room that the tuple tells; made is a dict of the rooms beneath it by their numbers."""
    if told[0] == "leaf":
        word, number, rows = told
        return Leaf(number, own_rows(rows))
    word, number, pivots, numbers, tray = told
    return Inner(number, list(pivots), [made[child] for child in numbers], list(tray))


def top_of(roll):
    """The top room of a tree made anew of a roll of tuples."""
    made = {}
    # From the last one back each room comes behind all that are beneath it.
    for told in reversed(roll):
        made[told[1]] = room_made(told, made)
    return made[roll[0][1]]
