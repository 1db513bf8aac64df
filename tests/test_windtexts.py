import random
import unittest

from tests.helping import (
    ANYTHING, a_case, a_room, deep, garbled, no_text_at, refused_at_again, show_winds_again, told_so, unchanged,
)
from windfleet.lands import Land
from windfleet.winds import is_winds
from windfleet.windtexts import read_winds, show_winds

LAND = Land(5, 3, day=8)
WINDS = (((0, 0, 4, 2, 0, 8), (-2, 0, -1, 1)), ((1, 1, 1, 1, 3, 3), (0, 0, 2, 2)))
TEXT = "wind 0 0 4 2 0 8 -2 0 -1 1\nwind 1 1 1 1 3 3 0 0 2 2"
ROW = "wind 0 0 4 2 0 8 0 1 0 0"


class ShowAndRead(unittest.TestCase):
    def both(self, winds, text, land=LAND):
        told_so(self, winds, text, unchanged(self, show_winds, winds))
        told_so(self, text, winds, unchanged(self, read_winds, land, text))

    def test_rows(self):
        self.both(WINDS, TEXT)
        self.both(WINDS[1:], TEXT.split("\n")[1])

    def test_none(self):
        self.both((), "")

    def test_at_the_bounds(self):
        land = Land(12, 12, day=24)
        row = ((0, 0, 11, 11, 0, 24), (-2, 0, 0, 2))
        self.both((row,) * 8, "\n".join(["wind 0 0 11 11 0 24 -2 0 0 2"] * 8), land)
        self.both((((11, 11, 11, 11, 24, 24), (2, 2, -2, -2)),), "wind 11 11 11 11 24 24 2 2 -2 -2", land)

    def test_by_names(self):
        self.assertEqual(TEXT, show_winds(winds=WINDS))
        self.assertEqual(WINDS, read_winds(text=TEXT, land=LAND))

    def test_many_winds(self):
        for number in range(200):
            land, winds, flight = a_case(random.Random(number))
            self.both(winds, show_winds_again(winds), land)


class Refused(unittest.TestCase):
    def at(self, wanted, text, land=LAND):
        self.assertEqual(repr(wanted), repr(no_text_at(self, read_winds, land, text)), repr(text))

    def test_of_anything_that_is_no_text(self):
        for thing in ANYTHING + (deep(30), [TEXT], (TEXT,), TEXT.encode(), TEXT.split("\n"), WINDS):
            if not isinstance(thing, str):
                self.at(-1, thing)

    def test_other_texts(self):
        for text in (" ", "\n", "\n\n", "x", "Wind" + ROW[4:], "wind", "wind ", "winds" + ROW[4:], "x" * 4000, "land 5 3 8"):
            self.at(0, text)

    def test_more_lines_than_may_be(self):
        self.at(-1, "\n" * 400)
        self.at(0, "\n" * 399)
        self.at(-1, "\n".join([ROW] * 401))
        self.at(8, "\n".join([ROW] * 400))

    def test_line_ends(self):
        self.at(2, TEXT + "\n")
        self.at(0, "\n" + TEXT)
        self.at(1, TEXT.replace("\n", "\n\n"))

    def test_blanks(self):
        for text in (" " + ROW, ROW + " ", ROW.replace(" 4", "  4"), ROW.replace(" 4", "\t4"), ROW + "\r"):
            self.at(0, text)
            self.at(1, ROW + "\n" + text)

    def test_how_numbers_are_written(self):
        for number in ("00", "-0", "+0", "01", "0.0", "", "x", "-", "--1", "9" * 60):
            for at in range(10):
                words = ROW.split(" ")
                words[1 + at] = number
                self.at(0, " ".join(words))

    def test_numbers_out_of_their_bounds(self):
        for line in (
            "0 0 5 2 0 8 0 1 0 0", "0 0 4 3 0 8 0 1 0 0", "0 0 4 2 0 9 0 1 0 0", "-1 0 4 2 0 8 0 1 0 0", "3 0 2 2 0 8 0 1 0 0",
            "0 2 4 1 0 8 0 1 0 0", "0 0 4 2 3 2 0 1 0 0", "0 0 4 2 0 8 -3 -2 0 0", "0 0 4 2 0 8 2 3 0 0", "0 0 4 2 0 8 1 0 0 0",
            "0 0 4 2 0 8 0 0 1 0", "0 0 4 2 0 8 -2 2 0 1", "0 0 4 2 0 8 -2 1 -1 1",
        ):
            self.at(0, "wind " + line)
            self.at(1, f"{ROW}\nwind {line}\n{ROW}")

    def test_numbers_too_many_or_too_few(self):
        self.at(0, ROW[:-2])
        self.at(0, ROW + " 0")
        self.at(0, ROW + " " + ROW)

    def test_lines_too_many(self):
        self.assertEqual(8, len(read_winds(LAND, "\n".join([ROW] * 8))))
        self.at(8, "\n".join([ROW] * 9))
        self.at(3, "\n".join([ROW] * 3 + ["x"] + [ROW] * 9))

    def test_of_this_land(self):
        text = "wind 0 0 4 2 0 8 0 1 0 0"
        for land in (Land(4, 3, day=8), Land(5, 2, day=8), Land(5, 3, day=7)):
            self.at(0, text, land)


def is_winds_text(text):
    """Whether it is the text of winds of the land: read loosely, and written again."""
    try:
        rows = [tuple(map(int, line.split(" ")[1:])) for line in text.split("\n") if text]
    except ValueError:
        return False
    winds = tuple((row[:6], row[6:]) for row in rows)
    return is_winds(LAND, winds) and show_winds_again(winds) == text


class OneByOne(unittest.TestCase):
    def test_garbled_texts_against_a_second_telling(self):
        told = {}
        lets = ((0, 1, 0, 0), (-1, 0, 0, 1), (-2, 2, 0, 0), (1, 1, -1, -1))
        for number in range(2500):
            rand = random.Random(number)
            winds = tuple((a_room(rand, 5, 3, 8), rand.choice(lets)) for k in range(rand.randint(1, 8)))
            text = garbled(rand, show_winds_again(winds))
            wanted = refused_at_again(text, is_winds_text, lambda lines: [[]])
            # A first line without signs is a text of none, but nothing goes on behind it.
            if wanted is not None and text.startswith("\n"):
                wanted = 0
            if wanted is None:
                self.assertEqual(text, show_winds_again(read_winds(LAND, text)))
            else:
                self.assertEqual(wanted, no_text_at(self, read_winds, LAND, text), repr(text))
            told[wanted] = told.get(wanted, 0) + 1
        for wanted in (None, 0, 1, 2, 3, 4, 5, 6, 7):
            self.assertGreater(told[wanted], 10)
