"""The store: values by keys, now and at the marks that it keeps."""

from notefall.deeds import Forget, Mark, deed_of
from notefall.errors import Busy, NoMark, NoRule
from notefall.pours import pour_by_hand, press_out, squeeze_all
from notefall.reads import (
    pairs, read_above, read_below, read_key, read_many, read_stretch, read_total, read_unlike, read_way,
)
from notefall.rolls import roll_of, top_of
from notefall.rooms import House, new_house
from notefall.wholes import END, is_rule


def own_step(step):
    """A step whose lists are the asker's own."""
    return tuple([list(thing) if isinstance(thing, list) else thing for thing in step])


class Store:
    """A store of this rule; last is the number of its last deed."""

    def __init__(self, rule):
        if not is_rule(rule):
            raise NoRule("no rule")
        self.rule = rule
        self.last = 0
        self.house = new_house(rule)
        # How many runs of each are under way.
        self.runs = 0

    def check_free(self):
        """Refuses what would change the store while each hands on its values."""
        if self.runs > 0:
            raise Busy("the store is handing on its values")

    def ready_deed(self, told):
        """The deed that the tuple tells, where it may be done now."""
        self.check_free()
        deed = deed_of(told)
        if isinstance(deed, Forget) and deed.mark not in self.house.kept:
            raise NoMark("no kept mark")
        return deed

    def do(self, told):
        """Does a deed; told is its number."""
        deed = self.ready_deed(told)
        self.last += 1
        note = deed.note(self.last)
        if note is not None:
            self.house.lay(note)
            return self.last
        self.house.trail = []
        if isinstance(deed, Mark):
            self.house.kept = self.house.kept + [self.last]
        else:
            self.house.kept = [mark for mark in self.house.kept if mark != deed.mark]
        return self.last

    def marks(self):
        """The kept marks, rising."""
        return list(self.house.kept)

    def read(self, key, *, at=None):
        """The key's value, or None."""
        return read_key(self.house, key, at=at)

    def stretch(self, low=0, high=END, *, at=None, most=None, back=False):
        """The tuples of key and value of the stretch, keys rising, or falling where back is True; at most most."""
        return read_stretch(self.house, low, high, at=at, most=most, back=back)

    def __len__(self):
        return len(pairs(self.house, 0, END, None))

    def above(self, key, *, at=None):
        """The least key above that has a value, or None."""
        return read_above(self.house, key, at=at)

    def below(self, key, *, at=None):
        """The greatest key below that has a value, or None."""
        return read_below(self.house, key, at=at)

    def many(self, low, high, *, at=None):
        """How many keys of the stretch have values."""
        return read_many(self.house, low, high, at=at)

    def total(self, low, high, *, at=None):
        """The sum of the values in the stretch."""
        return read_total(self.house, low, high, at=at)

    def unlike(self, one, other):
        """The tuples of key and its values at one and at other, where these are unlike, keys rising."""
        return read_unlike(self.house, one, other)

    def way(self, key, *, at=None):
        """The key's value, and the notes and versions on its way from the top room to its leaf."""
        return read_way(self.house, key, at=at)

    def pour(self, room, child):
        """Pours from an inner room into its child, both told by their numbers."""
        self.check_free()
        pour_by_hand(self.house, room, child)

    def press(self, low, high):
        """Pours till no tray has a note that shares a key with the stretch."""
        self.check_free()
        press_out(self.house, low, high)

    def squeeze(self):
        """Makes the tree anew, with no note in a tray."""
        self.check_free()
        squeeze_all(self.house)

    def each(self, tell, low=0, high=END):
        """Hands each key of the stretch that has a value, and the value, to tell; told is how many there were."""
        told = read_stretch(self.house, low, high)
        self.runs += 1
        try:
            for key, value in told:
                tell(key, value)
        finally:
            self.runs -= 1
        return len(told)

    def steps(self):
        """What the last deed or work did to the rooms, in order."""
        return [own_step(step) for step in self.house.trail]

    def twin(self):
        """Another store that stands alike."""
        other = store_from(self.image())
        other.house.trail = self.steps()
        return other

    def image(self):
        """The whole store as a tuple."""
        return (self.rule, self.last, self.marks(), self.house.fresh, roll_of(self.house.top))


def store_from(image):
    """A store whose image is this one, which is known to be without fault."""
    rule, last, marks, fresh, rooms = image
    store = Store(rule)
    store.last = last
    store.house = House(rule, list(marks), fresh, top_of(rooms))
    return store
