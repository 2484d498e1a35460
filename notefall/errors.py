"""The refusals. None stands under another, so each is taken by its own name alone."""


class FallError(ValueError):
    """Any refusal."""


class NoAction(FallError):
    """What was handed in is no action."""


class NoDeed(FallError):
    """What was handed in is no deed, or no deed's words."""


class NoNote(FallError):
    """What was handed in is no note."""


class NoKey(FallError):
    """What was handed in is no key."""


class NoStretch(FallError):
    """What was handed in is no stretch."""


class NoRule(FallError):
    """What was handed in is no rule."""


class NoMark(FallError):
    """What was handed in is no kept mark."""


class NoMany(FallError):
    """What was handed in doesn't tell how many."""


class NoRoom(FallError):
    """There is no such room, or it has no such child."""


class Busy(FallError):
    """The store is handing on its values and can't be changed meanwhile."""


class NoImage(FallError):
    """What was handed in is no image without fault; room is the place of its fault."""

    def __init__(self, room):
        self.room = room


class NoPage(FallError):
    """What was handed in is no room's text, or no head's."""


class NoPlace(FallError):
    """What was handed in is no place of a shelf."""


class NoCut(FallError):
    """The log can't be cut there."""


class NotBare(FallError):
    """The shelf has something on it already."""


class NoShelf(FallError):
    """No store was begun on this shelf."""
