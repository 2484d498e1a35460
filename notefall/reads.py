"""Reading: what the rooms tell, now and at the marks that are kept, wherever the notes lie."""

from notefall.actions import does
from notefall.errors import NoMany, NoMark
from notefall.leaves import value_of
from notefall.notes import reached
from notefall.rooms import Leaf, child_place, stretches
from notefall.trays import seen, touching, up_to
from notefall.wholes import END, check_key, check_stretch, is_number, is_whole_from


def check_mark(house, at):
    """Refuses what is neither None nor a kept mark."""
    if at is not None and (not is_number(at) or at not in house.kept):
        raise NoMark("no kept mark")


def check_many(most):
    """Refuses what is neither None nor tells how many."""
    if most is not None and not is_whole_from(most, 0):
        raise NoMany("no number of keys")


def rooms_to(top, key):
    """The rooms in whose stretches the key lies, from the top one to the leaf."""
    rooms = [top]
    while not isinstance(rooms[-1], Leaf):
        room = rooms[-1]
        rooms.append(room.children[child_place(room, key)])
    return rooms


def versions_in(leaf, key):
    """The versions of the key's row in its leaf, none where it has no row."""
    for other, versions in leaf.rows:
        if other == key:
            return list(versions)
    return []


def told_value(top, key, at):
    """What the rooms tell for the key: the leaf's value, then what the trays make of it from beneath up."""
    *inners, leaf = rooms_to(top, key)
    value = value_of(versions_in(leaf, key), at=at)
    for room in reversed(inners):
        value = seen(room.tray, key, value, at=at)
    return value


def leaf_table(leaf, at):
    """A dict of the values in a leaf by their keys, None among them."""
    return {key: value_of(versions, at=at) for key, versions in leaf.rows}


def do_to(table, note):
    """Does a note to a dict of values by keys."""
    keys = reached(note, table)
    for key in keys:
        table[key] = does(note[3], table.get(key))


def room_table(room, low, high, at):
    """A dict of the values that are told from a room down, None among them, for the keys of the stretch at least."""
    if isinstance(room, Leaf):
        return leaf_table(room, at)
    table = {}
    for child, (first, end) in zip(room.children, stretches(room, 0, END)):
        if first < high and low < end:
            table.update(room_table(child, low, high, at))
    for note in up_to(room.tray, at):
        do_to(table, note)
    return table


def pairs(house, low, high, at):
    """The tuples of key and value of the keys from low to high - 1 that have a value, keys rising."""
    table = room_table(house.top, low, high, at)
    return [(key, table[key]) for key in sorted(table) if low <= key < high and table[key] is not None]


def read_key(house, key, *, at=None):
    """The key's value, or None."""
    check_key(key)
    check_mark(house, at)
    return told_value(house.top, key, at)


def read_stretch(house, low=0, high=END, *, at=None, most=None, back=False):
    """The tuples of key and value of the stretch, keys rising, or falling where back is True; at most most."""
    check_stretch(low, high)
    check_mark(house, at)
    check_many(most)
    told = pairs(house, low, high, at)
    if back is True:
        told = told[::-1]
    return told if most is None else told[:most]


def read_above(house, key, *, at=None):
    """The least key above that has a value, or None."""
    check_key(key)
    check_mark(house, at)
    told = pairs(house, key + 1, END, at)
    return told[0][0] if told else None


def read_below(house, key, *, at=None):
    """The greatest key below that has a value, or None."""
    check_key(key)
    check_mark(house, at)
    told = pairs(house, 0, key, at)
    return told[-1][0] if told else None


def read_many(house, low, high, *, at=None):
    """How many keys of the stretch have values."""
    return len(read_stretch(house, low, high, at=at))


def read_total(house, low, high, *, at=None):
    """The sum of the values in the stretch."""
    return sum([value for key, value in read_stretch(house, low, high, at=at)])


def read_unlike(house, one, other):
    """The tuples of key and its values at one and at other, where these are unlike, keys rising."""
    check_mark(house, one)
    check_mark(house, other)
    left = dict(pairs(house, 0, END, one))
    right = dict(pairs(house, 0, END, other))
    keys = sorted(set(list(left) + list(right)))
    return [(key, left.get(key), right.get(key)) for key in keys if left.get(key) != right.get(key)]


def read_way(house, key, *, at=None):
    """The key's value, and what is on its way: each inner room's notes that touch it, the leaf's versions of it."""
    check_key(key)
    check_mark(house, at)
    *inners, leaf = rooms_to(house.top, key)
    rooms = [(room.number, touching(up_to(room.tray, at), key)) for room in inners]
    return (told_value(house.top, key, at), rooms + [(leaf.number, versions_in(leaf, key))])
