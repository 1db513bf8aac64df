import random
import unittest

from tests.helping import (
    ANYTHING, a_case, deep, garbled, no_text_at, refused_at_again, show_flight_again, told_so, unchanged,
)
from windfleet.flighttexts import read_flight, show_flight
from windfleet.flyers import is_flight
from windfleet.lands import Land

LAND = Land(5, 3, day=8, pads=((0, 0, 0, 2, 4), (4, 0, 4, 0, 1)))
FLYER = (2, 9, 50, 3)
TEXT = "\n".join((
    "flyer 2 9 50 3", "at 4 2 1 7", "task bring 0 0 1 1 2 0 4 2 9 0 8", "to 1", "go -2 1", "aim 11 0", "stand", "home",
))
FLIGHT = (
    FLYER, (4, 2, 1, 7), (("go", -2, 1), ("aim", 11, 0), ("stand",), ("home",)),
    ("bring", (0, 0, 1, 1), (2, 0, 4, 2), 9, 0, 8), 1,
)
PLAIN = "flyer 0 0 1 1\nat 0 0 0 0\ntask none\nto 0"


def with_line(at, line, text=TEXT):
    lines = text.split("\n")
    return "\n".join(lines[:at] + [line] + lines[at + 1:])


class ShowAndRead(unittest.TestCase):
    def both(self, flight, text, land=LAND):
        self.assertTrue(is_flight(land, flight))
        told_so(self, flight, text, unchanged(self, show_flight, flight))
        told_so(self, text, flight, unchanged(self, read_flight, land, text))

    def test_every_sort_of_line(self):
        self.both(FLIGHT, TEXT)
        self.both(((0, 0, 1, 1), (0, 0, 0, 0), (), None, 0), PLAIN)

    def test_tasks_of_each_sort_and_none(self):
        for step, task, line in (
            (0, None, "task none"),
            (1, ("look", (0, 1, 2, 2), 0, 8), "task look 0 1 2 2 0 8"),
            (2, ("bring", (0, 1, 2, 2), (3, 0, 3, 0), 0, 4, 5), "task bring 0 1 2 2 3 0 3 0 0 4 5"),
            (9, ("over", (0, 1, 2, 2), 9, 8, 8), "task over 0 1 2 2 9 8 8"),
            (0, ("over", (0, 1, 2, 2), 1, 0, 0), "task over 0 1 2 2 1 0 0"),
        ):
            text = f"flyer 2 9 50 3\nat 0 0 {step} 50\n{line}\nto 0"
            self.both((FLYER, (0, 0, step, 50), (), task, 0), text)

    def test_ways_of_none_to_twenty_four_rows(self):
        for many in range(25):
            way = tuple((("go", 0, -2), ("aim", 0, 11), ("stand",), ("home",))[k % 4] for k in range(many))
            lines = [("go 0 -2", "aim 0 11", "stand", "home")[k % 4] for k in range(many)]
            self.both((FLYER, (0, 0, 0, 0), way, None, 0), "\n".join(["flyer 2 9 50 3", "at 0 0 0 0", "task none", "to 0"] + lines))

    def test_at_the_bounds(self):
        land = Land(12, 12, day=24, pads=tuple((x, 0, x, 0, 1) for x in range(4)))
        flight = ((2, 9, 99, 9), (11, 11, 9, 99), (("go", -2, 2), ("aim", 11, 11)), ("over", (0, 0, 11, 11), 9, 0, 24), 3)
        self.both(flight, "flyer 2 9 99 9\nat 11 11 9 99\ntask over 0 0 11 11 9 0 24\nto 3\ngo -2 2\naim 11 11", land)

    def test_by_names(self):
        self.assertEqual(TEXT, show_flight(flight=FLIGHT))
        self.assertEqual(FLIGHT, read_flight(text=TEXT, land=LAND))

    def test_many_flights(self):
        for number in range(300):
            land, winds, flight = a_case(random.Random(number))
            self.both(flight, show_flight_again(flight), land)


class Refused(unittest.TestCase):
    def at(self, wanted, text, land=LAND):
        self.assertEqual(repr(wanted), repr(no_text_at(self, read_flight, land, text)), repr(text))

    def test_of_anything_that_is_no_text(self):
        for thing in ANYTHING + (deep(30), [TEXT], (TEXT,), TEXT.encode(), TEXT.split("\n"), FLIGHT):
            if not isinstance(thing, str):
                self.at(-1, thing)

    def test_other_texts(self):
        for text in ("", " ", "\n", "x", "Flyer 2 9 50 3", "flyer", "x" * 4000, "land 5 3 8", "at 0 0 0 0", "stand"):
            self.at(0, text)

    def test_more_lines_than_may_be(self):
        self.at(-1, "\n" * 400)
        self.at(0, "\n" * 399)
        self.at(-1, PLAIN + "\nstand" * 397)
        self.at(28, PLAIN + "\nstand" * 396)

    def test_one_more_line_needed(self):
        lines = TEXT.split("\n")
        for many in (1, 2, 3):
            self.at(many, "\n".join(lines[:many]))
        self.assertEqual((), read_flight(LAND, "\n".join(lines[:4]))[2])

    def test_line_ends(self):
        self.at(8, TEXT + "\n")
        self.at(4, PLAIN + "\n")
        self.at(0, "\n" + TEXT)
        self.at(2, PLAIN.replace("\ntask", "\n\ntask"))
        self.at(3, "\n".join(TEXT.split("\n")[:3]) + "\n")

    def test_blanks(self):
        for at, line in enumerate(TEXT.split("\n")):
            for wrong in (" " + line, line + " ", line + "\t", line + "\r", line + " ;"):
                self.at(at, with_line(at, wrong))
            if " " in line:
                self.at(at, with_line(at, line.replace(" ", "  ", 1)))

    def test_how_numbers_are_written(self):
        for at, line in enumerate(TEXT.split("\n")):
            words = line.split(" ")
            for by, word in enumerate(words):
                if word.strip("-").isdigit():
                    for wrong in ("0" + word, "+" + word, word + ".0", "x", "-0", "", "9" * 60, "- 1", "\u0663"):
                        self.at(at, with_line(at, " ".join(words[:by] + [wrong] + words[by + 1:])))

    def test_numbers_out_of_their_bounds(self):
        for line in ("-1 9 50 3", "3 9 50 3", "2 -1 50 3", "2 10 50 3", "2 9 0 3", "2 9 100 3", "2 9 50 0", "2 9 50 10"):
            self.at(0, with_line(0, "flyer " + line))
        for line in ("5 2 1 7", "4 3 1 7", "-1 2 1 7", "4 -1 1 7", "4 2 -1 7", "4 2 10 7", "4 2 1 51", "4 2 1 -1"):
            self.at(1, with_line(1, "at " + line))
        for line in (
            "look 0 0 5 0 0 8", "look 1 0 0 0 0 8", "look 0 0 0 0 0 9", "look 0 0 0 0 2 1", "over 0 0 0 0 0 0 8",
            "over 0 0 0 0 10 0 8", "bring 0 0 0 0 0 0 0 0 10 0 8", "bring 0 0 0 0 0 0 0 3 0 0 8", "bring 0 0 0 0 0 0 0 0 -1 0 8",
        ):
            self.at(2, with_line(2, "task " + line))
        for line in ("to 2", "to -1", "to 4"):
            self.at(3, with_line(3, line))
        for line in ("go 3 0", "go 0 -3", "aim 12 0", "aim 0 12", "aim -1 0"):
            for at in (4, 5, 7):
                self.at(at, with_line(at, line))

    def test_a_step_that_a_task_could_have_but_this_one_has_not(self):
        # The state is told ahead of its task: some task has nine steps, so it is the task's line that can't be.
        for step, task in ((1, "none"), (2, "look 0 0 0 0 0 8"), (3, "bring 0 0 0 0 0 0 0 0 0 0 8"), (5, "over 0 0 0 0 4 0 8")):
            head = f"flyer 2 9 50 3\nat 0 0 {step} 50\ntask "
            self.at(2, f"{head}{task}\nto 0")
            self.assertEqual(step, read_flight(LAND, f"{head}over 0 0 0 0 9 0 8\nto 0")[1][2])
        self.at(2, "flyer 2 9 50 3\nat 0 0 9 50")
        self.at(1, "flyer 2 9 50 3\nat 0 0 10 50")

    def test_numbers_too_many_or_too_few(self):
        for at, line in enumerate(TEXT.split("\n")):
            self.at(at, with_line(at, line + " 0"))
            if " " in line:
                self.at(at, with_line(at, line.rsplit(" ", 1)[0]))

    def test_words_unknown(self):
        for at, line in enumerate(TEXT.split("\n")):
            word, *rest = line.split(" ")
            for wrong in ("x", word.upper(), word + "s", word[:-1]):
                self.at(at, with_line(at, " ".join([wrong] + rest)))
        for line in ("task", "task None", "task x", "task none 0", "task look", "task bring 0 0 0 0 0 8", "task stand", "none"):
            self.at(2, with_line(2, line))

    def test_lines_out_of_order(self):
        lines = TEXT.split("\n")
        for at in range(4):
            self.at(at, "\n".join(lines[:at] + lines[at + 1:]))
            for other in range(at + 1, 8):
                swapped = list(lines)
                swapped[at], swapped[other] = swapped[other], swapped[at]
                self.at(at, "\n".join(swapped))
        self.at(4, "\n".join(lines[:4] + lines[3:]))

    def test_rows_too_many(self):
        self.assertEqual(24, len(read_flight(LAND, PLAIN + "\nhome" * 24)[2]))
        self.at(28, PLAIN + "\nhome" * 25)
        self.at(28, PLAIN + "\nhome" * 30)

    def test_of_this_land(self):
        for land, at in (
            (Land(4, 3, day=8, pads=((0, 0, 0, 0, 1),) + ((1, 0, 1, 0, 1),)), 1),
            (Land(5, 3, day=7, pads=((0, 0, 0, 0, 1),) + ((1, 0, 1, 0, 1),)), 2), (Land(5, 3, day=8, pads=((0, 0, 0, 0, 1),)), 3),
        ):
            self.at(at, TEXT, land)


def is_flight_text(text):
    """Whether it is the text of a flight of the land: read loosely, and written again."""
    try:
        flyer, state, task, home, *rows = [line.split(" ") for line in text.split("\n")]
        numbers = tuple(map(int, task[2:])) if len(task) > 2 else ()
        made = {
            "none": None, "look": ("look", numbers[:4], *numbers[4:]), "over": ("over", numbers[:4], *numbers[4:]),
            "bring": ("bring", numbers[:4], numbers[4:8], *numbers[8:]),
        }[task[1]]
        way = tuple((row[0], *map(int, row[1:])) for row in rows)
        flight = (tuple(map(int, flyer[1:])), tuple(map(int, state[1:])), way, made, int(home[1]))
    except (ValueError, KeyError, IndexError):
        return False
    return is_flight(LAND, flight) and show_flight_again(flight) == text


def flight_endings(lines):
    """What may be put behind lines: those of the first four that lack, with tasks of every number of steps."""
    tasks = [["task none"]] + [[f"task over 0 0 0 0 {many} 0 0"] for many in range(1, 10)]
    if len(lines) == 1:
        return [["at 0 0 0 0", "task none", "to 0"]]
    if len(lines) == 2:
        return [task + ["to 0"] for task in tasks]
    return [["to 0"]] if len(lines) == 3 else [[]]


class OneByOne(unittest.TestCase):
    def test_garbled_texts_against_a_second_telling(self):
        told = {}
        number = 0
        while sum(told.values()) < 3000:
            number += 1
            rand = random.Random(number)
            flight = (*a_case(rand, day=8)[2][:4], rand.randrange(2))
            if not is_flight(LAND, flight):
                continue
            text = garbled(rand, show_flight_again(flight))
            wanted = refused_at_again(text, is_flight_text, flight_endings)
            if wanted is None:
                self.assertEqual(text, show_flight_again(read_flight(LAND, text)))
            else:
                self.assertEqual(wanted, no_text_at(self, read_flight, LAND, text), repr(text))
            told[wanted] = told.get(wanted, 0) + 1
        for wanted in (None, 0, 1, 2, 3, 4, 5, 6):
            self.assertGreater(told[wanted], 20)
