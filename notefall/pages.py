"""Pages: rooms and heads as texts, and back."""

from notefall.actions import GONE
from notefall.errors import NoPage
from notefall.figures import figures_of, read_figures
from notefall.shapes import are_rising_from, is_inner_told, is_leaf_told
from notefall.wholes import is_rule, is_whole_from


def list_text(texts, sign):
    """The texts parted by the sign, "-" where there are none."""
    return sign.join(texts) if texts else "-"


def numbers_text(numbers):
    """A list of whole numbers as a text."""
    return list_text([figures_of(number) for number in numbers], ",")


def version_text(version):
    """A version as a text."""
    number, value = version
    return figures_of(number) + ":" + ("x" if value is None else figures_of(value))


def row_text(row):
    """A row as a text."""
    key, versions = row
    return figures_of(key) + "=" + list_text([version_text(version) for version in versions], ",")


def half_text(half):
    """One half of an action as a text."""
    if half == GONE:
        return "x"
    word, number = half
    return ("+" if word == "plus" else "=") + figures_of(number)


def note_text(note):
    """A note as a text."""
    number, low, high, (there, none) = note
    return ".".join([figures_of(number), figures_of(low), figures_of(high), half_text(there), half_text(none)])


def room_text(room, places):
    """The body of a room; places tells the place of each child by its number."""
    if room[0] == "leaf":
        word, number, rows = room
        return " ".join([word, figures_of(number), list_text([row_text(row) for row in rows], ";")])
    word, number, pivots, children, tray = room
    spots = list_text([figures_of(child) + "@" + figures_of(places[child]) for child in children], ",")
    notes = list_text([note_text(note) for note in tray], ";")
    return " ".join([word, figures_of(number), numbers_text(pivots), spots, notes])


def rule_text(rule):
    """A rule as a text."""
    tray, fan, rows, plan = rule
    return ",".join([figures_of(tray), figures_of(fan), figures_of(rows), plan])


def head_text(head):
    """The body of a head."""
    series, last, fresh, place, rule, marks = head
    numbers = [figures_of(number) for number in (series, last, fresh, place)]
    return " ".join(["head"] + numbers + [rule_text(rule), numbers_text(marks)])


def read_list(text, sign, read):
    """The list of what read tells of the parts between the signs; None where it tells None of one."""
    if text == "-":
        return []
    told = [read(piece) for piece in text.split(sign)]
    return None if None in told else told


def read_numbers(text):
    """The list of whole numbers that the text writes, or None."""
    return read_list(text, ",", read_figures)


def read_version(text):
    """The version that the text writes, or None."""
    number, colon, value = text.partition(":")
    if read_figures(number) is None or (value != "x" and read_figures(value) is None):
        return None
    return (read_figures(number), read_figures(value))


def read_row(text):
    """The row that the text writes, or None."""
    key, sign, versions = text.partition("=")
    told = (read_figures(key), read_list(versions, ",", read_version))
    return None if None in told else told


def read_half(text):
    """The half of an action that the text writes, or None."""
    if text == "x":
        return GONE
    number = read_figures(text[1:])
    if number is None or text[0] not in "+=":
        return None
    return ("plus" if text[0] == "+" else "is", number)


def read_note(text):
    """The four things of the note that the text writes, or None."""
    pieces = text.split(".")
    if len(pieces) != 5:
        return None
    number, low, high = [read_figures(piece) for piece in pieces[:3]]
    there, none = [read_half(piece) for piece in pieces[3:]]
    return (number, low, high, (there, none))


def read_spot(text):
    """A tuple of a child's number and its place, or None."""
    child, sign, place = text.partition("@")
    told = (read_figures(child), read_figures(place))
    return None if None in told else told


def read_leaf(pieces):
    """The tuple of a leaf and its places, of which there are none, or None."""
    word, number, rows = pieces
    leaf = (word, read_figures(number), read_list(rows, ";", read_row))
    return (leaf, {}) if is_leaf_told(leaf) and leaf[1] >= 0 else None


def read_inner(pieces):
    """The tuple of an inner room and its children's places, or None."""
    word, number, pivots, spots, tray = pieces
    pairs = read_list(spots, ",", read_spot)
    if pairs is None:
        return None
    children = [child for child, place in pairs]
    inner = (word, read_figures(number), read_numbers(pivots), children, read_list(tray, ";", read_note))
    places = dict(pairs)
    return (inner, places) if is_inner_told(inner) and is_inner_writable(inner, places) else None


def is_inner_writable(inner, places):
    """Whether the numbers of an inner room and of its children's places are such as are written."""
    word, number, pivots, children, tray = inner
    if len(children) != len(pivots) + 1 or len(places) != len(children):
        return False
    return all([part >= 0 for part in [number] + children + [places[child] for child in children]])


def read_room(text):
    """The tuple of a room and its children's places that the text writes."""
    if not isinstance(text, str):
        raise NoPage("no text")
    pieces = text.split(" ")
    told = None
    if pieces[0] == "leaf" and len(pieces) == 3:
        told = read_leaf(pieces)
    if pieces[0] == "inner" and len(pieces) == 5:
        told = read_inner(pieces)
    if told is None:
        raise NoPage("no room's text")
    return told


def read_rule(text):
    """The rule that the text writes, or None."""
    *numbers, plan = text.split(",")
    rule = tuple([read_figures(number) for number in numbers] + [plan])
    return rule if is_rule(rule) else None


def read_head(text):
    """The head that the text writes."""
    if not isinstance(text, str):
        raise NoPage("no text")
    word, *pieces = text.split(" ")
    if word != "head" or len(pieces) != 6:
        raise NoPage("no head's text")
    numbers = [read_figures(piece) for piece in pieces[:4]]
    rule = read_rule(pieces[4])
    marks = read_numbers(pieces[5])
    if not all([is_whole_from(number, 0) for number in numbers]) or rule is None or not are_rising_from(marks, 1):
        raise NoPage("no head's text")
    return tuple(numbers + [rule, marks])


def page_of(body):
    """The page of a body."""
    return figures_of(len(body)) + " " + body


def body_of(text):
    """The body where the text is a page, else None."""
    if not isinstance(text, str):
        return None
    number, blank, body = text.partition(" ")
    return body if text == page_of(body) else None
