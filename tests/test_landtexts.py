import random
import unittest

from tests.helping import (
    ANYTHING, a_case, a_fair_land, a_room, deep, garbled, kept, no_text_at, refused_at_again, show_land_again, told_so, unchanged,
)
from windfleet.errors import NoLand
from windfleet.landtexts import read_land, show_land
from windfleet.lands import Land

PLAIN = "land 5 3 8"
FULL = "\n".join((
    "land 3 2 8", "row 012", "row 900", "barred 0 0 1 1 0 8", "barred 2 1 2 1 3 3", "people 0 0 0 0 2 5",
    "pad 0 0 0 1 2", "pad 2 0 2 1 4",
))
FULL_LAND = Land(
    3, 2, day=8, heights=((0, 1, 2), (9, 0, 0)), barred=((0, 0, 1, 1, 0, 8), (2, 1, 2, 1, 3, 3)), people=((0, 0, 0, 0, 2, 5),),
    pads=((0, 0, 0, 1, 2), (2, 0, 2, 1, 4)),
)


class ShowAndRead(unittest.TestCase):
    def both(self, land, text):
        told_so(self, land, text, unchanged(self, show_land, land))
        read = unchanged(self, read_land, text)
        self.assertIs(Land, type(read))
        self.assertEqual(land, read)
        told_so(self, text, kept(land), kept(read))

    def test_every_sort_of_line(self):
        self.both(FULL_LAND, FULL)
        self.both(Land(5, 3, day=8), PLAIN)

    def test_each_sort_left_out(self):
        fields = {"heights": FULL_LAND.heights, "barred": FULL_LAND.barred, "people": FULL_LAND.people, "pads": FULL_LAND.pads}
        for name in fields:
            some = {field: fields[field] for field in fields if field != name}
            land = Land(3, 2, day=8, **some)
            self.both(land, show_land_again(land))
            alone = Land(3, 2, day=8, **{name: fields[name]})
            self.both(alone, show_land_again(alone))

    def test_at_the_bounds(self):
        self.both(Land(1, 1, day=1), "land 1 1 1")
        self.both(Land(12, 12, day=24), "land 12 12 24")
        rooms = tuple((0, 0, 11, 11, k, 24) for k in range(8))
        pads = tuple((x, 11, x, 11, x - 7) for x in (8, 9, 10, 11))
        heights = tuple(tuple((x + y) % 10 for x in range(12)) for y in range(12))
        land = Land(12, 12, day=24, heights=heights, barred=rooms, people=rooms, pads=pads)
        text = show_land_again(land)
        self.assertEqual(1 + 12 + 8 + 8 + 4, len(text.split("\n")))
        self.both(land, text)

    def test_heights_of_noughts_are_not_none(self):
        self.both(Land(2, 1, day=3, heights=((0, 0),)), "land 2 1 3\nrow 00")

    def test_by_names(self):
        self.assertEqual(FULL, show_land(land=FULL_LAND))
        self.assertEqual(FULL_LAND, read_land(text=FULL))

    def test_many_lands(self):
        for number in range(200):
            rand = random.Random(number)
            land = rand.choice((a_case(rand)[0], a_fair_land(rand, 5)))
            self.both(land, show_land_again(land))


class Refused(unittest.TestCase):
    def at(self, wanted, text):
        self.assertEqual(repr(wanted), repr(no_text_at(self, read_land, text)), repr(text))

    def test_of_anything_that_is_no_text(self):
        for thing in ANYTHING + (deep(30), [PLAIN], (PLAIN,), PLAIN.encode(), FULL.split("\n"), {PLAIN: 0}):
            if not isinstance(thing, str):
                self.at(-1, thing)

    def test_other_texts(self):
        for text in ("", " ", "\n", "\n\n", "x", "Land 5 3 8", "land", "land ", "x" * 4000, "row 00", "pad 0 0 0 0 1", ";"):
            self.at(0, text)

    def test_more_lines_than_may_be(self):
        self.at(-1, "\n" * 400)
        self.at(-1, PLAIN + "\n" * 400)
        self.at(1, PLAIN + "\n" * 399)
        self.at(-1, "\n".join([FULL] * 51))
        self.at(8, "\n".join([FULL] * 50))
        self.at(0, "\n" * 399)

    def test_blanks(self):
        for text in (" land 5 3 8", "land 5 3 8 ", "land  5 3 8", "land 5  3 8", "land\t5 3 8", "land 5 3 8\r", "land 5 3, 8"):
            self.at(0, text)
        for line in ("row 012 ", " row 012", "row  012", "row 0 1 2", "row 01 2", "row\t012"):
            self.at(1, FULL.replace("row 012", line))
        for line in ("pad 0 0 0 1 2 ", " pad 0 0 0 1 2", "pad  0 0 0 1 2", "pad 0 0 0  1 2"):
            self.at(6, FULL.replace("pad 0 0 0 1 2", line))

    def test_a_line_end_behind_the_last_line_and_ahead_of_the_first(self):
        self.at(1, PLAIN + "\n")
        self.at(8, FULL + "\n")
        self.at(0, "\n" + PLAIN)
        self.at(1, PLAIN + "\n\n" + "pad 0 0 0 0 1")

    def test_how_numbers_are_written(self):
        for number in ("05", "+5", "-0", "00", "5.0", "5_0", "0x5", "", "five", "--5", "5-", "-", "\u0665", "\u00b2", "9" * 50):
            self.at(0, f"land {number} 3 8")
            self.at(1, f"{PLAIN}\nbarred {number} 0 4 2 0 8")
        for number in ("00", "-0", "+0", "-1", "5", "10"):
            self.at(1, f"{PLAIN}\npad {number} 0 0 0 1")

    def test_numbers_out_of_their_bounds(self):
        for first in ("land 0 3 8", "land 13 3 8", "land 5 0 8", "land 5 13 8", "land 5 3 0", "land 5 3 25", "land -1 3 8"):
            self.at(0, first)
        for line in ("0 0 5 0 0 8", "0 0 0 3 0 8", "1 0 0 0 0 8", "0 1 0 0 0 8", "0 0 0 0 0 9", "0 0 0 0 2 1", "-1 0 0 0 0 8"):
            for sort in ("barred", "people"):
                self.at(1, f"{PLAIN}\n{sort} {line}")
        for line in ("0 0 5 0 1", "0 0 0 3 1", "1 0 0 0 1", "0 0 0 0 0", "0 0 0 0 5", "0 0 0 0 -1"):
            self.at(1, f"{PLAIN}\npad {line}")

    def test_numbers_too_many_or_too_few(self):
        for line in ("land 5 3", "land 5 3 8 0", "land 5 3 8 pad 0 0 0 0 1"):
            self.at(0, line)
        for line in ("barred 0 0 0 0 0", "barred 0 0 0 0 0 0 0", "people 0 0 0 0", "pad 0 0 0 0", "pad 0 0 0 0 1 1", "barred", "pad"):
            self.at(1, f"{PLAIN}\n{line}")

    def test_words_unknown(self):
        for word in ("rows", "Barred", "bar", "peoples", "pads", "wind", "land", "barred\tx"):
            self.at(1, f"{PLAIN}\n{word} 0 0 0 0 0 0")
            self.at(1, f"{PLAIN}\n{word} 0 0 0 0 1")

    def test_rows_of_heights(self):
        for row in ("row 0123", "row 01", "row", "row ", "row 01x", "row -12", "row 01 ", "row 0 2"):
            self.at(1, f"land 3 2 8\n{row}\nrow 000")
            self.at(2, f"land 3 2 8\nrow 000\n{row}")

    def test_rows_too_few_and_too_many(self):
        self.at(2, "land 3 2 8\nrow 000")
        self.at(3, "land 3 4 8\nrow 000\nrow 000")
        self.at(2, "land 3 2 8\nrow 000\npad 0 0 0 0 1")
        self.at(3, "land 3 2 8\nrow 000\nrow 000\nrow 000")
        self.at(2, "land 3 1 8\nrow 000\nrow 000")

    def test_lines_out_of_order(self):
        lines = FULL.split("\n")
        for at in range(1, 8):
            for by in range(1, at):
                if lines[at].split()[0] != lines[by].split()[0]:
                    moved = lines[:by] + [lines[at]] + lines[by:at] + lines[at + 1:]
                    self.at(refused_at_again("\n".join(moved), is_land_text, land_endings), "\n".join(moved))
        self.at(2, f"{PLAIN}\npad 0 0 0 0 1\nbarred 0 0 0 0 0 0")
        self.at(2, f"{PLAIN}\npeople 0 0 0 0 0 0\nbarred 0 0 0 0 0 0")
        self.at(2, "land 1 1 8\nbarred 0 0 0 0 0 0\nrow 0")
        self.at(1, f"{PLAIN}\n{PLAIN}")

    def test_lines_too_many(self):
        for sort in ("barred", "people"):
            room = f"\n{sort} 0 0 0 0 0 0"
            self.assertEqual(8, len(getattr(read_land(PLAIN + room * 8), sort)))
            self.at(9, PLAIN + room * 9)
            self.at(9, PLAIN + room * 9 + "\npad 0 0 0 0 1")
        pads = "".join(f"\npad {x} 0 {x} 0 1" for x in range(5))
        self.assertEqual(4, len(read_land(PLAIN + pads[:-len("\npad 4 0 4 0 1")]).pads))
        self.at(5, PLAIN + pads)

    def test_a_pad_that_shares_a_square_with_one_ahead(self):
        self.at(2, f"{PLAIN}\npad 0 0 1 1 1\npad 1 1 2 2 1")
        self.at(2, f"{PLAIN}\npad 0 0 1 1 1\npad 0 0 1 1 1\npad 4 0 4 0 1")
        self.at(3, f"{PLAIN}\npad 0 0 1 1 1\npad 2 0 2 0 1\npad 1 0 1 0 1\nnothing")
        self.at(3, f"{PLAIN}\npad 0 0 1 1 1\npad 2 0 2 0 1\npad 2 0 4 2 1")

    def test_the_first_line_of_several(self):
        self.at(2, f"{PLAIN}\npad 0 0 0 0 1\nx\ny")
        self.at(0, "land 0 0 0\npad 0 0 0 0 9")
        self.at(1, "land 2 1 8\nrow 0\nrow 00")


def is_land_text(text):
    """Whether it is the text of some land: read loosely, and written again."""
    first, *rest = text.split("\n")
    try:
        wide, high, day = [int(word) for word in first.split(" ")[1:]]
        lines = [line.split(" ") for line in rest]
        heights = tuple(tuple(map(int, line[1])) for line in lines if line[0] == "row") or None
        rooms = {sort: tuple(tuple(map(int, line[1:])) for line in lines if line[0] == sort) for sort in ("barred", "people", "pad")}
        land = Land(wide, high, day=day, heights=heights, barred=rooms["barred"], people=rooms["people"], pads=rooms["pad"])
    except (NoLand, ValueError, IndexError):
        return False
    return show_land_again(land) == text


def land_endings(lines):
    """What may be put behind lines: as many rows as may lack."""
    wide = max(1, len(lines[-1]) - 4)
    return [["row " + "0" * wide] * many for many in range(12)]


class OneByOne(unittest.TestCase):
    def test_garbled_texts_against_a_second_telling(self):
        told = {}
        for number in range(4000):
            rand = random.Random(number)
            land = self.a_land(rand)
            text = show_land_again(land)
            for k in range(rand.randrange(1, 3)):
                text = garbled(rand, text)
            wanted = refused_at_again(text, is_land_text, land_endings)
            if wanted is None:
                self.assertEqual(text, show_land_again(read_land(text)))
            else:
                self.assertEqual(wanted, no_text_at(self, read_land, text), repr(text))
            told[wanted] = told.get(wanted, 0) + 1
        for wanted in (None, 0, 1, 2, 3, 4, 5):
            self.assertGreater(told[wanted], 20)

    def a_land(self, rand):
        wide, high = rand.randint(1, 3), rand.randint(1, 3)
        heights = rand.choice((None, tuple(tuple(rand.randrange(10) for x in range(wide)) for y in range(high))))
        rooms = [tuple(a_room(rand, wide, high, 9) for k in range(rand.choice((0, 1, 2, 8)))) for sort in range(2)]
        pads = tuple((x, 0, x, high - 1, rand.randint(1, 4)) for x in range(wide) if rand.random() < 0.7)
        return Land(wide, high, day=9, heights=heights, barred=rooms[0], people=rooms[1], pads=pads)
