"""Rooms: the tree through which notes sink, from the top room's tray down to the leaves."""

from notefall.actions import CLEARING
from notefall.leaves import halves, rows_behind
from notefall.trays import laid, within, without
from notefall.wholes import END


class Leaf:
    """A room of rows."""

    def __init__(self, number, rows):
        self.number = number
        self.rows = rows


class Inner:
    """A room with a tray of notes and with children, between each two of which there is a pivot."""

    def __init__(self, number, pivots, children, tray):
        self.number = number
        self.pivots = pivots
        self.children = children
        self.tray = tray


def stretches(room, low, high):
    """The stretches of an inner room's children, as tuples; low and high are the room's own."""
    edges = [low] + room.pivots + [high]
    return list(zip(edges, edges[1:]))


def child_place(room, key):
    """The place of the child in whose stretch the key lies."""
    return len([pivot for pivot in room.pivots if pivot <= key])


def is_bare(room):
    """Whether nothing is in the room, nor beneath it."""
    if isinstance(room, Leaf):
        return len(room.rows) == 0
    return len(room.tray) == 0 and len(room.children) == 1 and is_bare(room.children[0])


def fullest_place(room, low, high):
    """The place of the child into which most notes would go, the leftmost one of several."""
    counts = [len(within(room.tray, first, end)) for first, end in stretches(room, low, high)]
    return counts.index(max(counts))


def eldest_place(room):
    """The place of the leftmost child that the tray's first note touches."""
    return child_place(room, room.tray[0][1])


def last_clearing(tray, low, high, marks):
    """The place of the last note that takes all values of the stretch away, from each mark's sight too, or None."""
    told = None
    for place, note in enumerate(tray):
        number, first, end, action = note
        if first <= low and high <= end and action == CLEARING and not any([mark < number for mark in marks]):
            told = place
    return told


def take_out(room, place):
    """Takes a child out of a room that has another one."""
    # Its stretch goes to the left neighbour with the pivot between the two, the first one's to the right one.
    gap = max(place - 1, 0)
    room.children = room.children[:place] + room.children[place + 1:]
    room.pivots = room.pivots[:gap] + room.pivots[gap + 1:]


class House:
    """All rooms of a store: its rule, the marks that it keeps, the number for a new room, the top room.

    The trail tells what was done to the rooms, in order, since it was last emptied.
    """

    def __init__(self, rule, kept, fresh, top):
        self.rule = rule
        self.kept = kept
        self.fresh = fresh
        self.top = top
        self.trail = []

    def next_number(self):
        """The number of a new room."""
        number = self.fresh
        self.fresh += 1
        return number

    def lay(self, note):
        """Lays a note in the top room, and mends it."""
        self.trail = [("lay", note)]
        self.take_in(self.top, 0, END, [note])
        self.mend_top()

    def take_in(self, room, low, high, notes):
        """Lays notes in a room of this stretch."""
        if isinstance(room, Leaf):
            room.rows = rows_behind(room.rows, notes, self.kept)
            return
        for note in notes:
            room.tray = laid(room.tray, note, self.kept)
        self.drain(room, low, high)

    def drain(self, room, low, high):
        """Pours from an inner room as long as its tray has too many notes."""
        tray, fan, rows, plan = self.rule
        while len(room.tray) > tray:
            place = fullest_place(room, low, high) if plan == "fullest" else eldest_place(room)
            self.pour_into(room, place, low, high)

    def pour_into(self, room, place, low, high):
        """Pours from an inner room of this stretch into its child at the place."""
        first, end = stretches(room, low, high)[place]
        clearing = last_clearing(room.tray, first, end, self.kept)
        if clearing is not None and len(room.children) > 1:
            self.clear_out(room, place, without(room.tray[:clearing + 1], first, end) + room.tray[clearing + 1:])
            return
        child = room.children[place]
        notes = within(room.tray, first, end)
        room.tray = without(room.tray, first, end)
        self.trail.append(("pour", room.number, child.number, len(notes)))
        self.take_in(child, first, end, notes)
        self.mend(room, place, low, high)

    def clear_out(self, room, place, tray):
        """Lets a cleared child go, with this tray left in the room."""
        self.trail.append(("clear", room.number, room.children[place].number))
        room.tray = tray
        take_out(room, place)

    def is_too_great(self, room):
        """Whether the room has more rows or children than the rule lets it have."""
        tray, fan, rows, plan = self.rule
        return len(room.rows) > rows if isinstance(room, Leaf) else len(room.children) > fan

    def mend(self, room, place, low, high):
        """Lets the child at the place go where it is bare, or parts it where it is too great."""
        child = room.children[place]
        if len(room.children) > 1 and is_bare(child):
            self.trail.append(("out", room.number, child.number))
            take_out(room, place)
        elif self.is_too_great(child):
            first, end = stretches(room, low, high)[place]
            self.part_child(room, place, first, end)

    def part_child(self, room, place, low, high):
        """Parts the child at the place, which has this stretch."""
        child = room.children[place]
        pivots, parts = self.leaf_parts(child) if isinstance(child, Leaf) else self.inner_parts(child, low, high)
        room.children = room.children[:place] + parts + room.children[place + 1:]
        room.pivots = room.pivots[:place] + pivots + room.pivots[place:]
        self.trail.append(("part", child.number, pivots, [part.number for part in parts[1:]]))

    def leaf_parts(self, leaf):
        """The pivots between the parts of a leaf, and the parts."""
        tray, fan, rows, plan = self.rule
        groups = halves(leaf.rows, rows)
        numbers = self.part_numbers(leaf, len(groups))
        pivots = [group[0][0] for group in groups[1:]]
        return (pivots, [Leaf(number, group) for number, group in zip(numbers, groups)])

    def inner_parts(self, inner, low, high):
        """The pivots between the parts of an inner room of this stretch, and the parts."""
        tray, fan, rows, plan = self.rule
        edges = [low] + inner.pivots + [high]
        groups = halves(inner.children, fan)
        pivots = []
        parts = []
        start = 0
        for number, group in zip(self.part_numbers(inner, len(groups)), groups):
            end = start + len(group)
            notes = within(inner.tray, edges[start], edges[end])
            parts.append(Inner(number, edges[start + 1:end], group, notes))
            pivots.append(edges[end])
            start = end
        # Behind the last part there is the room's own high, which is no pivot.
        return (pivots[:-1], parts)

    def part_numbers(self, room, many):
        """The numbers of a room's parts: the first one keeps its own."""
        return [room.number] + [self.next_number() for place in range(many - 1)]

    def mend_top(self):
        """Puts new top rooms above one that is too great, and lets those go that do nothing."""
        while self.is_too_great(self.top):
            self.top = Inner(self.next_number(), [], [self.top], [])
            self.trail.append(("top", self.top.number))
            self.mend(self.top, 0, 0, END)
        while isinstance(self.top, Inner) and len(self.top.children) == 1 and len(self.top.tray) == 0:
            self.trail.append(("low", self.top.number))
            self.top = self.top.children[0]


def new_house(rule):
    """The rooms of a store ahead of all deeds."""
    return House(rule, [], 1, Leaf(0, []))
