"""The shelf: pages at places, a journal, and the log of all that was written on it."""

from notefall.errors import NoCut, NoPlace
from notefall.wholes import is_number, is_whole

MOST_PLACE = 10 ** 6


def signs_of(entry):
    """The signs that a write of the log puts on the shelf; a blot puts none."""
    if entry[0] == "page":
        return entry[2]
    return entry[1] + "\n" if entry[0] == "line" else ""


class Shelf:
    """A shelf without pages, its journal without signs."""

    def __init__(self):
        self.sheets = {}
        self.diary = ""
        self.writes = []
        # What stood there ahead of all writes of the log.
        self.first_sheets = {}
        self.first_diary = ""

    def write(self, place, text):
        """Puts a text at a place; what stood there is gone."""
        if not is_whole(place, 0, MOST_PLACE):
            raise NoPlace("no place")
        self.put_down(("page", place, text))

    def line(self, text):
        """Puts a text and a line feed behind the journal."""
        self.put_down(("line", text))

    def blot(self):
        """Takes all signs of the journal away."""
        self.put_down(("blot",))

    def put_down(self, entry):
        """Does a write, and puts it behind the log."""
        self.writes.append(entry)
        self.carry_out(entry, signs_of(entry))

    def carry_out(self, entry, signs):
        """Does a write with these of its signs alone."""
        if entry[0] == "blot":
            self.diary = ""
        elif entry[0] == "line":
            self.diary += signs
        elif signs != "":
            self.sheets[entry[1]] = signs

    def page(self, place):
        """The text at a place, or None."""
        # A truth is equal to 0 or 1, and other things may not be asked for in a dict.
        return self.sheets.get(place) if is_number(place) else None

    def places(self):
        """The places with a text, rising."""
        return sorted(self.sheets)

    def journal(self):
        """The journal's text."""
        return self.diary

    def log(self):
        """All writes, in order."""
        return list(self.writes)

    def after(self, many, signs):
        """Another shelf, as it would be behind the first many writes of the log and so many signs of the next one."""
        if not is_whole(many, 0, len(self.writes)):
            raise NoCut("no such many writes")
        rest = self.writes[many:]
        most = max(len(signs_of(rest[0])) - 1, 0) if rest else 0
        if not is_whole(signs, 0, most):
            raise NoCut("no such many signs")
        other = Shelf()
        other.sheets = dict(self.first_sheets)
        other.diary = self.first_diary
        for entry in self.writes[:many]:
            other.carry_out(entry, signs_of(entry))
        if signs > 0:
            other.carry_out(rest[0], signs_of(rest[0])[:signs])
        other.first_sheets = dict(other.sheets)
        other.first_diary = other.diary
        return other
