import random
import unittest

from tests.helping import all_choices, fair_menus, goods_again, the_greatest_fleet, told_so, unchanged
from windfleet.bars import bars_hold
from windfleet.judging import judged
from windfleet.lands import Land
from windfleet.seeking import sought

STAND = ("stand",)
FLYER = (2, 9, 50, 3)
PADS = ((0, 0, 0, 3, 4), (5, 0, 5, 3, 2), (3, 0, 3, 0, 1))
LAND = Land(6, 4, day=6, pads=PADS)
# From (1, 0) by the first beat's wind to (2, 0) or not.
WINDS = (((1, 0, 1, 0, 0, 0), (0, 1, 0, 0)),)


def a_flight(x, y, *way, home=0, task=None, step=0):
    return FLYER, (x, y, step, 50), way, task, home


LATE = a_flight(5, 0, STAND, STAND, STAND, STAND, STAND)
HERE = a_flight(2, 1)
HOME = a_flight(0, 3)
SURE = a_flight(1, 0, ("go", 0, 0), task=("look", (1, 0, 2, 0), 1, 1))
PERHAPS = a_flight(1, 0, ("go", 0, 0), task=("look", (2, 0, 2, 0), 1, 1))
NEVER = a_flight(1, 0, ("go", 0, 0), task=("look", (5, 3, 5, 3), 1, 1))
FREE = a_flight(1, 0, ("go", 0, 0))


class Asking(unittest.TestCase):
    def sought(self, menus, land=LAND, winds=(), since=0, **named):
        told = unchanged(self, sought, land, winds, menus, since, **named)
        self.assertIsInstance(told, tuple)
        self.assertEqual(2, len(told))
        self.assertIsInstance(told[1], tuple)
        if told[0] == "none":
            self.assertIs(True, bars_hold(land, winds, menus, all_choices(menus), since, told[1], **named))
        return told

    def bars(self, menus, **named):
        """The sorts of the bars, where no choice is good."""
        word, bars = self.sought(menus, **named)
        self.assertEqual("none", word)
        return sorted({bar[0] for bar in bars})


class Sought(Asking):
    def test_one_flyer_one_flight(self):
        told_so(self, "good", ("choice", (0,)), self.sought(((HOME,),)))
        word, bars = self.sought(((LATE,),))
        self.assertEqual(("none", 1), (word, len(bars)))
        self.assertEqual(("flight", 0, 0), bars[0][:3])

    def test_the_least_of_several(self):
        self.assertEqual(("choice", (0, 0)), self.sought(((HOME, HERE), (HERE, HOME))))
        self.assertEqual(("choice", (1, 0)), self.sought(((LATE, HOME), (HERE, LATE))))
        self.assertEqual(("choice", (0, 2)), self.sought(((HERE, HOME), (HERE, LATE, HOME))))
        # By the first place, not by the sum of the places: (0, 2) is ahead of (1, 0).
        self.assertEqual(("choice", (0, 2)), self.sought(((HERE, HOME), (HERE, HERE, HOME))))

    def test_not_good_by_a_flight(self):
        self.assertEqual(["flight"], self.bars(((HOME,), (LATE, LATE))))
        self.assertEqual(["flight"], self.bars(((LATE, HOME), (LATE,))))

    def test_not_good_by_two_that_come_near(self):
        self.assertEqual(["pair"], self.bars(((HERE,), (HERE, HERE))))
        self.assertEqual(("choice", (0, 1)), self.sought(((HERE,), (HERE, HOME))))
        self.assertEqual(["pair"], self.bars(((HERE,), (HOME,), (HERE,))))

    def test_not_good_by_a_pads_room(self):
        land = Land(6, 4, day=6, pads=((0, 0, 0, 3, 1), *PADS[1:]))
        away = a_flight(5, 0, home=1)
        self.assertEqual(["pad"], self.bars(((HOME,), (a_flight(0, 0), a_flight(0, 1))), land=land))
        self.assertEqual(("choice", (0, 1)), self.sought(((HOME,), (HOME, away)), land))
        # One that stands on the pad on its way uses it.
        visit, owner = a_flight(1, 0, ("aim", 3, 0), STAND, ("aim", 1, 0)), a_flight(3, 0, home=2)
        self.assertEqual(["pad"], self.bars(((visit,), (owner,))))
        self.assertEqual(("choice", (1, 0)), self.sought(((visit, HOME), (owner,))))

    def test_pads_whose_room_is_for_some(self):
        land = Land(6, 4, day=6, pads=((0, 0, 0, 3, 2), *PADS[1:]))
        homes = tuple((a_flight(0, y),) for y in range(3))
        self.assertEqual(["pad"], self.bars(homes, land=land))
        self.assertEqual(["pad"], self.bars(homes + ((a_flight(0, 3),),), land=land))
        self.assertEqual(("choice", (0, 0)), self.sought(homes[:2], land))

    def test_not_good_by_several_things(self):
        land = Land(6, 4, day=6, pads=((0, 0, 0, 3, 1), *PADS[1:]))
        self.assertEqual(["flight", "pad", "pair"], self.bars(((HERE,), (LATE, HERE, HOME)), land=land))

    def test_a_task_done_for_sure(self):
        for made in (SURE, PERHAPS, NEVER, FREE):
            self.assertEqual("let", judged(LAND, WINDS, made, 0)[0])
            self.assertEqual(("choice", (0,)), self.sought(((made,),), winds=WINDS))
            self.assertEqual(("choice", (0,)), self.sought(((made,),), winds=WINDS, surely=False))
        for made in (SURE, FREE):
            self.assertEqual(("choice", (0,)), self.sought(((made,),), winds=WINDS, surely=True))
        for made in (PERHAPS, NEVER):
            self.assertEqual(["task"], self.bars(((made,),), winds=WINDS, surely=True))
        menu = (NEVER, PERHAPS, SURE)
        self.assertEqual(("choice", (2,)), self.sought((menu,), winds=WINDS, surely=True))
        self.assertEqual(("choice", (0,)), self.sought((menu,), winds=WINDS))
        self.assertEqual(("choice", (0, 2)), self.sought(((HOME,), menu), winds=WINDS, surely=True))

    def test_a_task_that_is_done_already_and_one_at_day(self):
        done = a_flight(0, 0, task=("look", (5, 3, 5, 3), 1, 1), step=1)
        owed = a_flight(0, 0, task=("look", (5, 3, 5, 3), 1, 1))
        for since in (0, 6):
            self.assertEqual(("choice", (1,)), self.sought(((owed, done),), since=since, surely=True))
        self.assertEqual(("none", (("task", 0, 0, ()),)), self.sought(((owed,),), since=6, surely=True))

    def test_what_is_left_out(self):
        menus = ((a_flight(1, 0),), (a_flight(2, 2), HOME))
        self.assertEqual(("choice", (0, 0)), self.sought(menus))
        self.assertEqual(("choice", (0, 0)), self.sought(menus, apart=1))
        self.assertEqual(("choice", (0, 1)), self.sought(menus, apart=3))
        self.assertEqual(sought(LAND, WINDS, ((NEVER,),), 0), sought(LAND, WINDS, ((NEVER,),), 0, surely=False))

    def test_by_names(self):
        told = sought(surely=True, apart=1, since=0, menus=((SURE,),), winds=WINDS, land=LAND)
        self.assertEqual(("choice", (0,)), told)


class OneByOne(Asking):
    def test_against_all_choices(self):
        seen = {}
        for number in range(500):
            rand = random.Random(number)
            land, winds, menus, since = fair_menus(rand, judged)
            apart, surely = rand.choice((1, 1, 2, 3)), rand.random() < 0.5
            goods = goods_again(land, winds, menus, since, apart, surely)
            told = self.sought(menus, land, winds, since, apart=apart, surely=surely)
            if goods:
                told_so(self, number, ("choice", goods[0]), told)
                seen["first" if goods[0] == (0,) * len(menus) else "later"] = True
            else:
                self.assertEqual("none", told[0])
                for bar in told[1]:
                    seen[bar[0]] = True
        self.assertEqual({"first", "later", "flight", "task", "pair", "pad"}, set(seen))

    def test_the_greatest_of_what_is_promised(self):
        land, winds, (low, high, rest, stays) = the_greatest_fleet()
        menus = ((low, low, rest), (low, high, high), (low, rest, stays), (low, low, stays))
        self.assertEqual(("choice", (0, 1, 1, 2)), self.sought(menus, land, winds))
        self.assertEqual("none", self.sought(((low,) * 3,) * 4, land, winds, apart=3)[0])
