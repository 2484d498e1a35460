"""Kept stores: stores that are written on a shelf, and come up from it."""

from notefall.deeds import read_words
from notefall.errors import NoPage, NoShelf, NotBare
from notefall.figures import figures_of, read_figures
from notefall.pages import body_of, head_text, page_of, read_head, read_room, room_text
from notefall.store import Store, store_from

# The places ahead of it are the heads'.
FIRST_PLACE = 2


def free_place(taken):
    """The least place for a room that is not among these."""
    place = FIRST_PLACE
    while place in taken:
        place += 1
    return place


def children_told(room):
    """The numbers of the children of a room told as a tuple."""
    return room[3] if room[0] == "inner" else []


class Kept:
    """A store and its shelf; the series is that of the last settling, -1 ahead of the first one.

    What stands is a dict by the rooms' numbers: the body and the place of each room by the last settling.
    """

    def __init__(self, store, shelf, series, stands):
        self.store = store
        self.shelf = shelf
        self.series = series
        self.stands = stands

    def do(self, told):
        """Does a deed to the store once its line is written; told is its number."""
        deed = self.store.ready_deed(told)
        self.shelf.line(figures_of(self.store.last + 1) + " " + str(deed))
        return self.store.do(told)

    def settle(self):
        """Writes the store down; told are the places written, the head's last."""
        rule, last, marks, fresh, rooms = self.store.image()
        stands = {}
        written = []
        taken = {place: True for body, place in self.stands.values()}
        # From the last one back each room comes behind its children, whose places its body tells.
        for room in reversed(rooms):
            body = room_text(room, {child: stands[child][1] for child in children_told(room)})
            place = self.standing_place(room[1], body)
            if place is None:
                place = free_place(taken)
                self.shelf.write(place, page_of(body))
                written.append(place)
            taken[place] = True
            stands[room[1]] = (body, place)
        top_place = stands[rooms[0][1]][1]
        head_place = self.write_head((self.series + 1, last, fresh, top_place, rule, marks))
        self.series += 1
        self.stands = stands
        return written + [head_place]

    def standing_place(self, number, body):
        """The place where the room of this number stands with this very body, or None."""
        if number not in self.stands:
            return None
        other, place = self.stands[number]
        return place if other == body else None

    def write_head(self, head):
        """Writes a head, blots the journal, and tells the head's place."""
        place = head[0] % 2
        self.shelf.write(place, page_of(head_text(head)))
        self.shelf.blot()
        return place


def begin(shelf, rule):
    """A kept store of this rule on a bare shelf."""
    store = Store(rule)
    if shelf.places() or shelf.journal() != "":
        raise NotBare("the shelf is not bare")
    kept = Kept(store, shelf, -1, {})
    kept.settle()
    return kept


def head_at(shelf, place):
    """The head whose page is at the place, or None."""
    try:
        return read_head(body_of(shelf.page(place)))
    except NoPage:
        return None


def last_head(shelf):
    """The head that counts."""
    heads = [head for head in (head_at(shelf, 0), head_at(shelf, 1)) if head is not None]
    if not heads:
        raise NoShelf("no store was begun here")
    return max(heads, key=lambda head: head[0])


def rooms_on(shelf, top_place):
    """The rooms from the one at the place down, in the image's order, and what stands."""
    rooms = []
    stands = {}
    waiting = [top_place]
    while waiting:
        place = waiting.pop()
        body = body_of(shelf.page(place))
        room, places = read_room(body)
        rooms.append(room)
        stands[room[1]] = (body, place)
        waiting = waiting + [places[child] for child in reversed(children_told(room))]
    return (rooms, stands)


def do_lines(store, text):
    """Does the deeds of the journal's whole lines whose numbers are above the store's last."""
    last = store.last
    # What stands behind the last line feed is no whole line, however it reads.
    for line in text.split("\n")[:-1]:
        number, blank, words = line.partition(" ")
        if read_figures(number) > last:
            store.do(read_words(words).told())


def come_up(shelf):
    """The kept store that the shelf tells."""
    series, last, fresh, place, rule, marks = last_head(shelf)
    rooms, stands = rooms_on(shelf, place)
    store = store_from((rule, last, marks, fresh, rooms))
    do_lines(store, shelf.journal())
    kept = Kept(store, shelf, series, stands)
    kept.settle()
    return kept
