"""Whole numbers in figures, as a deed's words and the pages have them."""

MOST_FIGURES = 60


def figures_of(number):
    """The text that writes a whole number."""
    return str(number)


def are_figures(text):
    """Whether the text is of figures alone, as many as a number may have."""
    # isdigit by itself takes figures of other scripts too.
    return text.isascii() and text.isdigit() and len(text) <= MOST_FIGURES


def read_figures(text):
    """The whole number that figures_of writes so; None of anything else."""
    if not isinstance(text, str):
        return None
    bare = text.removeprefix("-")
    if not are_figures(bare):
        return None
    # One number is written in one way alone, so no 0 goes ahead and 0 has no sign.
    if bare[0] == "0" and text != "0":
        return None
    return int(text)
