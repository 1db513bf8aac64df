"""Texts of winds."""

from windfleet.errors import NoText
from windfleet.landtexts import line_of, lines_of, numbers_behind
from windfleet.winds import is_winds


def show_winds(winds):
    """The winds' text."""
    return "\n".join([line_of("wind", room + bounds) for room, bounds in winds])


def read_winds(land, text):
    """The winds of the land that are so written."""
    lines = lines_of(text)
    # Of no winds the text has no lines, though Python splits it into one.
    if text == "":
        return ()
    winds = ()
    for at, line in enumerate(lines):
        numbers = numbers_behind(line, "wind", 10)
        if numbers is None:
            raise NoText(at)
        winds = winds + ((numbers[:6], numbers[6:]),)
        if not is_winds(land, winds):
            raise NoText(at)
    return winds
