import random
import unittest

from tests.helping import all_choices, fair_menus, goods_again, the_greatest_fleet, told_so, unchanged
from windfleet.bars import bars_hold
from windfleet.judging import judged
from windfleet.lands import Land
from windfleet.mending import mended

STAND = ("stand",)
FLYER = (2, 9, 50, 3)
PADS = ((0, 0, 0, 3, 4), (5, 0, 5, 3, 4), (3, 0, 3, 0, 1))
LAND = Land(6, 4, day=6, pads=PADS)
WINDS = (((1, 0, 1, 0, 0, 0), (0, 1, 0, 0)),)


def a_flight(x, y, *way, home=0, task=None):
    return FLYER, (x, y, 0, 50), way, task, home


LATE = a_flight(5, 0, STAND, STAND, STAND, STAND, STAND)
HERE = a_flight(2, 1)
HOME = a_flight(0, 3)
SURE = a_flight(1, 0, ("go", 0, 0), task=("look", (1, 0, 2, 0), 1, 1))
PERHAPS = a_flight(1, 0, ("go", 0, 0), task=("look", (2, 0, 2, 0), 1, 1))


def turned(choice, now):
    return sum(1 for one, other in zip(choice, now) if one != other)


class Asking(unittest.TestCase):
    def mended(self, menus, now, land=LAND, winds=(), since=0, **named):
        told = unchanged(self, mended, land, winds, menus, now, since, **named)
        self.assertIsInstance(told, tuple)
        self.assertEqual({"choice": 3, "none": 2}[told[0]], len(told))
        few = len(menus) + 1 if told[0] == "none" else turned(told[1], now)
        fewer = tuple(choice for choice in all_choices(menus) if turned(choice, now) < few)
        self.assertIs(True, bars_hold(land, winds, menus, fewer, since, told[-1], **named))
        return told


class Mended(Asking):
    def test_good_already(self):
        # The least good one is another, but this one turns none.
        told_so(self, "good", ("choice", (1, 1), ()), self.mended(((HOME, HERE), (HERE, HOME)), (1, 1)))
        told_so(self, "good", ("choice", (0,), ()), self.mended(((HOME,),), (0,)))

    def test_one_place_to_turn(self):
        word, choice, bars = self.mended(((HOME, HERE), (HERE, HOME)), (1, 0))
        self.assertEqual(("choice", (0, 0)), (word, choice))
        self.assertEqual(["pair"], [bar[0] for bar in bars])
        word, choice, bars = self.mended(((HOME, LATE), (HERE, LATE), (HOME, LATE)), (0, 1, 0))
        self.assertEqual(("choice", (0, 0, 0)), (word, choice))
        self.assertEqual([("flight", 1, 1)], [bar[:3] for bar in bars])

    def test_two_places_to_turn_and_all(self):
        menus = ((HOME, LATE), (HERE, LATE), (HOME, LATE), (HOME, LATE))
        for now in all_choices(menus):
            word, choice, bars = self.mended(menus, now)
            self.assertEqual(("choice", (0, 0, 0, 0)), (word, choice))

    def test_the_least_of_several_at_one_number_of_places(self):
        # From (1, 1) by one place: (0, 1) and (1, 0) and (1, 2), of which the first is the least.
        menus = ((HOME, HERE), (HOME, HERE, HOME))
        self.assertEqual(("choice", (0, 1)), self.mended(menus, (1, 1))[:2])
        menus = ((LATE, HERE), (HOME, HERE, HOME))
        self.assertEqual(("choice", (1, 0)), self.mended(menus, (1, 1))[:2])
        menus = ((HERE, HERE, HOME), (HERE, HERE, LATE))
        self.assertEqual(("choice", (2, 1)), self.mended(menus, (1, 1))[:2])

    def test_fewer_places_ahead_of_the_least(self):
        # (0, 0, 2) is less, but differs in two places; (2, 1, 0) in one.
        menus = ((HOME, LATE, HERE), (HOME, HOME), (HOME, HERE, HOME))
        self.assertEqual(("choice", (0, 1, 0)), self.mended(menus, (1, 1, 0))[:2])
        menus = ((HERE, LATE, HOME), (HERE, HERE), (HOME, HERE, HOME))
        self.assertEqual(("choice", (2, 1, 0)), self.mended(menus, (1, 1, 0))[:2])
        menus = ((HERE, HERE), (HERE, HOME), (HERE, HOME))
        self.assertEqual(("choice", (1, 1, 1)), self.mended(menus, (1, 1, 0))[:2])

    def test_none(self):
        word, bars = self.mended(((HERE, LATE), (HERE, HERE)), (1, 0))
        self.assertEqual("none", word)
        self.assertEqual(["flight", "pair", "pair"], sorted(bar[0] for bar in bars))
        for now in all_choices(((LATE, LATE), (HOME,))):
            self.assertEqual("none", self.mended(((LATE, LATE), (HOME,)), now)[0])

    def test_bars_of_those_that_differ_in_fewer_places_and_none_more(self):
        # What bars (0, 0), as far from now as what is told, needn't be shown.
        menus = ((LATE, HERE), (LATE, HERE, HOME))
        word, choice, bars = self.mended(menus, (1, 1))
        self.assertEqual(("choice", (1, 2)), (word, choice))
        self.assertEqual([("pair", 0, 1, 1, 1)], [bar[:5] for bar in bars])

    def test_pads(self):
        land = Land(6, 4, day=6, pads=((0, 0, 0, 3, 1), *PADS[1:]))
        away = a_flight(5, 0, home=1)
        word, choice, bars = self.mended(((HOME, away), (HOME, away)), (0, 0), land)
        self.assertEqual(("choice", (0, 1)), (word, choice))
        self.assertEqual((("pad", 0, ((0, 0, ()), (1, 0, ()))),), bars)

    def test_surely_and_apart(self):
        menus = ((PERHAPS, SURE),)
        self.assertEqual(("choice", (0,), ()), self.mended(menus, (0,), winds=WINDS))
        self.assertEqual(("choice", (0,), ()), self.mended(menus, (0,), winds=WINDS, surely=False))
        word, choice, bars = self.mended(menus, (0,), winds=WINDS, surely=True)
        self.assertEqual(("choice", (1,), ["task"]), (word, choice, [bar[0] for bar in bars]))
        self.assertEqual("none", self.mended(((PERHAPS,),), (0,), winds=WINDS, surely=True)[0])
        menus = ((a_flight(1, 0),), (a_flight(2, 2), HOME))
        for apart, choice in ((1, (0, 0)), (2, (0, 0)), (3, (0, 1))):
            self.assertEqual(("choice", choice), self.mended(menus, (0, 0), apart=apart)[:2])
        self.assertEqual(("choice", (0, 0), ()), mended(LAND, (), menus, (0, 0), 0))

    def test_by_names(self):
        told = mended(surely=True, apart=1, since=0, now=(0,), menus=((SURE,),), winds=WINDS, land=LAND)
        self.assertEqual(("choice", (0,), ()), told)


class OneByOne(Asking):
    def test_against_all_choices(self):
        seen = {}
        for number in range(400):
            rand = random.Random(number)
            land, winds, menus, since = fair_menus(rand, judged)
            apart, surely = rand.choice((1, 1, 2, 3)), rand.random() < 0.5
            goods = goods_again(land, winds, menus, since, apart, surely)
            for k in range(3):
                now = tuple(rand.randrange(len(menu)) for menu in menus)
                told = self.mended(menus, now, land, winds, since, apart=apart, surely=surely)
                if goods:
                    best = min(goods, key=lambda choice: (turned(choice, now), choice))
                    told_so(self, number, ("choice", best), told[:2])
                    seen[turned(best, now)] = True
                else:
                    self.assertEqual("none", told[0])
                    seen["none"] = True
        self.assertEqual({0, 1, 2, "none"}, set(seen) - {3, 4})

    def test_the_greatest_of_what_is_promised(self):
        land, winds, (low, high, rest, stays) = the_greatest_fleet()
        menus = ((low, low, rest), (low, high, high), (low, rest, stays), (low, low, stays))
        self.assertEqual(("choice", (0, 1, 1, 2)), self.mended(menus, (0, 0, 0, 0), land, winds)[:2])
        self.assertEqual("none", self.mended(((low,) * 3,) * 4, (2, 1, 0, 1), land, winds, apart=3)[0])
