import unittest

from tests.helping import ANYTHING, deep, replaced, spoiled, unchanged
from windfleet.flyers import is_flight, is_flyer, is_way
from windfleet.lands import Land

LAND = Land(4, 3, day=6, pads=((0, 0, 1, 0, 1), (3, 2, 3, 2, 2)))
FLYER = (2, 5, 50, 3)
WAY = (("go", 1, -2), ("aim", 3, 11), ("stand",), ("home",))
LOOK = ("look", (1, 0, 2, 1), 2, 4)
BRING = ("bring", (1, 0, 2, 1), (2, 1, 3, 2), 5, 2, 4)
OVER = ("over", (1, 0, 2, 1), 3, 2, 4)
FLIGHT = (FLYER, (1, 2, 1, 20), WAY, BRING, 1)


class IsFlyer(unittest.TestCase):
    def asked(self, thing):
        return unchanged(self, is_flyer, thing)

    def test_each_number_within_its_bounds(self):
        for at, (least, greatest) in enumerate(((0, 2), (0, 9), (1, 99), (1, 9))):
            for number in (*range(-3, 103), 10 ** 39, -(10 ** 39)):
                self.assertIs(least <= number <= greatest, self.asked(replaced(FLYER, (at,), number)), (at, number))

    def test_the_least_and_the_greatest(self):
        self.assertIs(True, self.asked((0, 0, 1, 1)))
        self.assertIs(True, self.asked((2, 9, 99, 9)))

    def test_spoiled(self):
        for flyer in (FLYER, (1, 1, 1, 1), (0, 0, 1, 1)):
            for thing in spoiled(flyer):
                self.assertIs(False, self.asked(thing), thing)

    def test_anything(self):
        for thing in (*ANYTHING, deep(30)):
            self.assertIs(False, self.asked(thing))

    def test_by_name(self):
        self.assertIs(True, is_flyer(thing=FLYER))


class IsWay(unittest.TestCase):
    def asked(self, thing):
        return unchanged(self, is_way, thing)

    def test_none_to_twenty_four_rows(self):
        for many in range(25):
            self.assertIs(True, self.asked((("stand",),) * many))
        self.assertIs(False, self.asked((("stand",),) * 25))
        self.assertIs(True, self.asked(WAY * 6))
        self.assertIs(False, self.asked(WAY * 6 + (("home",),)))

    def test_go(self):
        for dx in range(-4, 5):
            for dy in range(-4, 5):
                self.assertIs(abs(dx) <= 2 and abs(dy) <= 2, self.asked((("go", dx, dy),)))

    def test_aim(self):
        for x in range(-2, 15):
            for y in range(-2, 15):
                self.assertIs(0 <= x <= 11 and 0 <= y <= 11, self.asked((("aim", x, y),)))

    def test_each_word_with_its_own_parts_alone(self):
        for word in ("stand", "home"):
            self.assertIs(True, self.asked(((word,),)))
            for more in ((0,), (0, 0), (1, 1), (None,), ((),)):
                self.assertIs(False, self.asked(((word,) + more,)))
        for word in ("go", "aim"):
            for more in ((), (0,), (0, 0, 0), ((0, 0),)):
                self.assertIs(False, self.asked(((word,) + more,)))
        for word in ("", "Go", "STAND", "homes", "hom", "fly", None, 0, True, ()):
            self.assertIs(False, self.asked(((word, 0, 0),)))
            self.assertIs(False, self.asked(((word,),)))
        self.assertIs(False, self.asked(((),)))
        self.assertIs(False, self.asked(("stand",)))

    def test_each_row_is_asked(self):
        for at in range(24):
            self.assertIs(False, self.asked(tuple(("go", 3, 0) if k == at else ("home",) for k in range(24))))

    def test_spoiled(self):
        for thing in spoiled(WAY, free=((),)):
            self.assertIs(False, self.asked(thing), thing)

    def test_anything(self):
        for thing in (*ANYTHING, deep(30), [("stand",)], "stand", ["stand"]):
            self.assertIs(repr(thing) == "()", self.asked(thing))

    def test_by_name(self):
        self.assertIs(True, is_way(thing=WAY))


class IsFlight(unittest.TestCase):
    def asked(self, thing, land=LAND):
        return unchanged(self, is_flight, land, thing)

    def test_each_sort_of_task_or_none(self):
        for task in (LOOK, BRING, OVER):
            self.assertIs(True, self.asked(replaced(FLIGHT, (3,), task)))
        self.assertIs(True, self.asked((FLYER, (1, 2, 0, 20), (), None, 0)))

    def test_squares_of_the_land(self):
        for x in range(-2, 7):
            for y in range(-2, 6):
                self.assertIs(0 <= x <= 3 and 0 <= y <= 2, self.asked(replaced(FLIGHT, (1,), (x, y, 0, 0))))

    def test_step_from_nought_to_the_tasks_last(self):
        tasks = [(None, 0), (LOOK, 1), (BRING, 2)] + [(replaced(OVER, (2,), many), many) for many in range(1, 10)]
        for task, last in tasks:
            for step in range(-2, 13):
                flight = (FLYER, (1, 2, step, 20), WAY, task, 1)
                self.assertIs(0 <= step <= last, self.asked(flight), (task, step))

    def test_charge_from_nought_to_the_flyers_full(self):
        for full in (1, 50, 99):
            for charge in (-1, 0, 1, full - 1, full, full + 1, 100):
                flight = ((2, 5, full, 3), (1, 2, 0, charge), WAY, None, 1)
                self.assertIs(0 <= charge <= full, self.asked(flight), (full, charge))

    def test_home_is_the_number_of_a_pad(self):
        for home in range(-3, 6):
            self.assertIs(home in (0, 1), self.asked(replaced(FLIGHT, (4,), home)))
        for home in range(-3, 6):
            self.assertIs(False, self.asked(replaced(FLIGHT, (4,), home), Land(4, 3, day=6)))
        four = Land(4, 3, day=6, pads=tuple((x, 0, x, 0, 1) for x in range(4)))
        for home in range(-3, 6):
            self.assertIs(0 <= home <= 3, self.asked(replaced(FLIGHT, (4,), home), four))

    def test_flyer_way_and_task_are_asked(self):
        self.assertIs(False, self.asked(replaced(FLIGHT, (0, 0), 3)))
        self.assertIs(False, self.asked(replaced(FLIGHT, (0, 3), 0)))
        self.assertIs(False, self.asked(replaced(FLIGHT, (2,), (("stand",),) * 25)))
        self.assertIs(False, self.asked(replaced(FLIGHT, (2, 0), ("go", 3, 0))))
        self.assertIs(False, self.asked(replaced(FLIGHT, (3, 1), (1, 0, 4, 1))))
        self.assertIs(False, self.asked(replaced(FLIGHT, (3, 5), 7)))
        self.assertIs(True, self.asked(replaced(FLIGHT, (3, 5), 7), Land(4, 3, day=7, pads=LAND.pads)))

    def test_spoiled(self):
        for thing in spoiled(FLIGHT, free=((2,),)):
            self.assertIs(False, self.asked(thing), thing)

    def test_task_none_with_a_step_is_none(self):
        self.assertIs(False, self.asked(replaced(FLIGHT, (3,), None)))

    def test_start_that_hurts_is_a_flight_too(self):
        land = Land(4, 3, day=6, pads=LAND.pads, barred=((1, 2, 1, 2, 0, 6),))
        self.assertIs(True, self.asked(FLIGHT, land))

    def test_anything(self):
        for thing in (*ANYTHING, deep(30), list(FLIGHT), (FLIGHT,), FLYER, WAY):
            self.assertIs(False, self.asked(thing))

    def test_by_names(self):
        self.assertIs(True, is_flight(thing=FLIGHT, land=LAND))
