"""Texts of lands, and what all texts are made of: lines, words, numbers."""

from windfleet.errors import NoLand, NoText
from windfleet.lands import Land, are_pads, are_rooms

MOST_LINES = 400
# As many as a text has signs: Python itself refuses to read numbers that are longer by some.
MOST_FIGURES = 4000
FIGURES = "0123456789"


def lines_of(thing):
    """The lines of a text; NoText of anything else, and of a text of too many lines."""
    if not isinstance(thing, str):
        raise NoText(-1)
    lines = thing.split("\n")
    if len(lines) > MOST_LINES:
        raise NoText(-1)
    return lines


def line_of(word, numbers):
    """The line of a word and numbers."""
    return " ".join([word] + [str(number) for number in numbers])


def are_figures(word):
    """Whether all signs of the word are figures."""
    return all([sign in FIGURES for sign in word])


def number_in(word):
    """The whole number that the word writes, without noughts ahead; None of another word."""
    figures = word[1:] if word.startswith("-") else word
    if not 1 <= len(figures) <= MOST_FIGURES or not are_figures(figures):
        return None
    if figures.startswith("0") and word != "0":
        return None
    return int(word)


def numbers_in(words, many):
    """The numbers that the words write, just so many; None of other words."""
    numbers = [number_in(word) for word in words]
    if len(numbers) != many or None in numbers:
        return None
    return tuple(numbers)


def numbers_behind(line, word, many):
    """The numbers, just so many, of a line that begins with the word; None of another line."""
    head, *words = line.split(" ")
    return numbers_in(words, many) if head == word else None


def show_land(land):
    """The land's text."""
    lines = [line_of("land", (land.wide, land.high, land.day))]
    if land.heights is not None:
        lines.extend(["row " + "".join([str(height) for height in row]) for row in land.heights])
    lines.extend([line_of("barred", room) for room in land.barred])
    lines.extend([line_of("people", room) for room in land.people])
    lines.extend([line_of("pad", pad) for pad in land.pads])
    return "\n".join(lines)


def read_land(text):
    """The Land that is so written."""
    lines = lines_of(text)
    bare = bare_land(lines[0])
    heights, at = heights_from(bare, lines, 1)
    barred, at = rows_from(bare, lines, at, "barred", 6, are_rooms)
    people, at = rows_from(bare, lines, at, "people", 6, are_rooms)
    pads, at = rows_from(bare, lines, at, "pad", 5, are_pads)
    if at < len(lines):
        raise NoText(at)
    return Land(bare.wide, bare.high, day=bare.day, heights=heights, barred=barred, people=people, pads=pads)


def bare_land(line):
    """The Land that the first line of a text tells by itself."""
    numbers = numbers_behind(line, "land", 3)
    if numbers is None:
        raise NoText(0)
    wide, high, day = numbers
    try:
        return Land(wide, high, day=day)
    except NoLand:
        raise NoText(0) from None


def heights_from(land, lines, at):
    """(heights, the place behind them): what the lines from the place on tell of them, all rows or None."""
    rows = []
    while at < len(lines) and len(rows) < land.high and is_height_line(land, lines[at]):
        rows.append(tuple([int(figure) for figure in lines[at][4:]]))
        at += 1
    if not rows:
        return None, at
    if len(rows) < land.high:
        raise NoText(at)
    return tuple(rows), at


def is_height_line(land, line):
    """Whether the line tells a height for each x of the land."""
    return line.startswith("row ") and len(line) == 4 + land.wide and are_figures(line[4:])


def rows_from(land, lines, at, word, many, are_such):
    """(rows, the place behind them): the numbers of the lines from the place on that begin with the word.

    The rows end ahead of the first line with which they would be such no longer.
    """
    rows = ()
    while at < len(lines) and are_such(land, rows + (numbers_behind(lines[at], word, many),)):
        rows = rows + (numbers_behind(lines[at], word, many),)
        at += 1
    return rows, at
