"""Works by hand: pouring from one room, pressing a stretch, squeezing the whole tree."""

from notefall.errors import NoRoom
from notefall.leaves import rows_behind, swept
from notefall.rolls import all_rooms, children_of
from notefall.rooms import Inner, Leaf
from notefall.trays import within
from notefall.wholes import END, check_stretch, is_number


def place_of(room, number):
    """The place of the child with this number, None where the room has none such."""
    for place, child in enumerate(room.children):
        if child.number == number:
            return place
    return None


def found_inner(top, number):
    """The inner room with this number and its stretch, None where there is none such."""
    for room, low, high in all_rooms(top):
        if isinstance(room, Inner) and room.number == number:
            return (room, low, high)
    return None


def found_pair(top, number, child):
    """The inner room with this number, its stretch and the place of its child, all by their numbers."""
    # A truth is equal to 0 or 1, and so would pass for these rooms' numbers.
    found = found_inner(top, number) if is_number(number) and is_number(child) else None
    if found is None:
        raise NoRoom("no such inner room")
    room, low, high = found
    place = place_of(room, child)
    if place is None:
        raise NoRoom("no such child")
    return (room, low, high, place)


def pour_by_hand(house, number, child):
    """Pours from the inner room with this number into its child."""
    room, low, high, place = found_pair(house.top, number, child)
    house.trail = []
    pour_and_look(house, room, place, low, high)
    mend_all_ways(house)


def pour_and_look(house, room, place, low, high):
    """Pours from a room into its child at the place, and from there on as long as its tray has too many notes."""
    house.pour_into(room, place, low, high)
    # What is left of a wide note on both sides of the child makes two notes of one.
    house.drain(room, low, high)


def poured_from(trail):
    """The numbers of the rooms that were poured from."""
    return [step[1] for step in trail if step[0] in ("pour", "clear")]


def mend_all_ways(house):
    """Mends the rooms on the way up from each that was poured from, the top one last."""
    if isinstance(house.top, Inner):
        mend_ways(house, house.top, 0, END, poured_from(house.trail))
    house.mend_top()


def mend_ways(house, room, low, high, numbers):
    """Mends the rooms beneath this one that lie on such a way, from beneath; told is whether it lies on one itself."""
    on_way = room.number in numbers
    inners = [child for child in children_of(room, low, high) if isinstance(child[0], Inner)]
    for child, first, end in inners:
        if mend_ways(house, child, first, end, numbers):
            house.mend(room, place_of(room, child.number), low, high)
            on_way = True
    return on_way


def pressed_place(room, low, high, first, end):
    """The place of the leftmost child for which the room has a note with a key from first to end - 1, or None."""
    for place, (child, child_low, child_high) in enumerate(children_of(room, low, high)):
        if within(room.tray, max(child_low, first), min(child_high, end)):
            return place
    return None


def press_out(house, low, high):
    """Pours till no tray has a note that shares a key with the stretch."""
    check_stretch(low, high)
    house.trail = []
    press_room(house, house.top, 0, END, low, high)
    mend_all_ways(house)


def press_room(house, room, low, high, first, end):
    """Presses the keys from first to end - 1 out of the trays of a room of this stretch and of those beneath it."""
    if isinstance(room, Leaf):
        return
    place = pressed_place(room, low, high, first, end)
    while place is not None:
        pour_and_look(house, room, place, low, high)
        place = pressed_place(room, low, high, first, end)
    for child, child_low, child_high in children_of(room, low, high):
        if child_low < end and first < child_high:
            press_room(house, child, child_low, child_high, first, end)


def rows_beneath(room, marks):
    """The rows of all leaves beneath a room, behind all notes of the trays on their ways."""
    if isinstance(room, Leaf):
        return room.rows
    rows = [row for child in room.children for row in rows_beneath(child, marks)]
    return rows_behind(rows, room.tray, marks)


def bundles(things, most):
    """The things in order in lists of most each, the last one perhaps of fewer."""
    return [things[start:start + most] for start in range(0, len(things), most)]


def inner_of(group):
    """A tuple of the least key and the inner room of a group of such tuples."""
    pivots = [key for key, room in group[1:]]
    return (group[0][0], Inner(0, pivots, [room for key, room in group], []))


def tree_of(rows, rule):
    """The top room of a tree made anew of leaf rows, all rooms yet without numbers of their own."""
    tray, fan, most, plan = rule
    if not rows:
        return Leaf(0, [])
    floor = [(bundle[0][0], Leaf(0, bundle)) for bundle in bundles(rows, most)]
    while len(floor) > 1:
        floor = [inner_of(group) for group in bundles(floor, fan)]
    return floor[0][1]


def squeeze_all(house):
    """Presses all, sweeps all rows, and makes the tree anew of them."""
    house.top = tree_of(swept(rows_beneath(house.top, house.kept), house.kept), house.rule)
    rooms = all_rooms(house.top)
    for number, (room, low, high) in enumerate(rooms):
        room.number = number
    house.fresh = len(rooms)
    house.trail = [("squeeze",)]
