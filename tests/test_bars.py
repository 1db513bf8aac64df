import random
import unittest

from tests.helping import (
    ANYTHING, all_choices, deep, does_bar_again, fair_menus, is_bar_again, replaced, spoiled, unchanged,
)
from windfleet.bars import bars_hold
from windfleet.judging import judged
from windfleet.lands import Land
from windfleet.mending import mended
from windfleet.seeking import sought

STAND = ("stand",)
FLYER = (2, 9, 50, 3)
LAND = Land(6, 3, day=3, pads=((0, 0, 0, 2, 1), (5, 0, 5, 2, 2), (3, 0, 3, 0, 1)))
# From (1, 0) by the first beat's wind to (2, 0) or not.
WINDS = (((1, 0, 1, 0, 0, 0), (0, 1, 0, 0)),)
CALM = (0, 0)


def a_flight(x, y, *way, home=0, task=None):
    return FLYER, (x, y, 0, 50), way, task, home


OUT = a_flight(1, 0, ("go", 0, -1))
LOOKS = a_flight(1, 0, ("go", 0, 0), task=("look", (2, 0, 2, 0), 1, 1))
VISIT = a_flight(1, 0, ("go", 2, 0), STAND, ("home",))
MENUS = (
    (OUT, LOOKS, a_flight(1, 2)),
    (a_flight(1, 0), a_flight(1, 2), a_flight(0, 1)),
    (VISIT, a_flight(3, 0, STAND, home=2), a_flight(3, 0, ("go", 0, 0), home=2)),
)
FLIGHT = ("flight", 0, 0, 3, (CALM,))
TASK = ("task", 0, 1, (CALM,) * 3)
PAIR = ("pair", 0, 2, 1, 1, (), ())
HOMES = ("pad", 0, ((0, 2, ()), (1, 2, ())))
# Of menus of their own: one that stands on the pad on its way, and the one whose home it is.
STANDS = ("pad", 2, ((0, 0, (CALM,)), (1, 0, ())))
STAND_MENUS = ((VISIT,), (MENUS[2][1], MENUS[0][2]))


class Asking(unittest.TestCase):
    def held(self, thing, choices=(), menus=MENUS, land=LAND, winds=WINDS, since=0, **named):
        named.setdefault("surely", True)
        told = unchanged(self, bars_hold, land, winds, menus, choices, since, thing, **named)
        self.assertIn(repr(told), ("True", "False"))
        return told


class Bars(Asking):
    def test_each_sort(self):
        for bar in (FLIGHT, TASK, PAIR, HOMES):
            self.assertIs(True, self.held((bar,)), bar)
            self.assertIs(True, is_bar_again(LAND, WINDS, MENUS, 0, bar, 1, True))
        self.assertIs(True, self.held((FLIGHT, TASK, PAIR, HOMES)))
        self.assertIs(True, self.held((HOMES, PAIR, FLIGHT, TASK, FLIGHT)))
        self.assertIs(True, self.held((STANDS,), menus=STAND_MENUS))

    def test_which_choices_each_bars(self):
        for bar, named in (
            (FLIGHT, {(0, 0)}), (TASK, {(0, 1)}), (PAIR, {(0, 2), (1, 1)}), (HOMES, {(0, 2), (1, 2)}),
        ):
            for choice in all_choices(MENUS):
                self.assertIs(named <= set(enumerate(choice)), self.held((bar,), (choice,)), (bar, choice))

    def test_choices_none_some_and_all(self):
        self.assertIs(True, self.held(()))
        self.assertIs(False, self.held((), ((0, 0, 0),)))
        self.assertIs(True, self.held((FLIGHT,), ((0, 0, 0), (0, 2, 1))))
        self.assertIs(False, self.held((FLIGHT,), ((0, 0, 0), (0, 2, 1), (1, 0, 0))))
        self.assertIs(True, self.held((FLIGHT, TASK), ((1, 0, 0), (0, 2, 1))))
        self.assertIs(True, self.held((FLIGHT, TASK), ((1, 0, 0), (0, 0, 0), (1, 0, 0))))
        two = tuple(choice for choice in all_choices(MENUS) if choice[0] < 2)
        self.assertIs(True, self.held((FLIGHT, TASK), two))
        self.assertIs(False, self.held((FLIGHT, TASK), all_choices(MENUS)))

    def test_one_that_bars_none_is_no_fault(self):
        self.assertIs(True, self.held((TASK, PAIR, FLIGHT), ((0, 0, 0),)))
        self.assertIs(True, self.held((PAIR,), ()))

    def test_one_that_is_not_so_spoils_all(self):
        for wrong in (("flight", 0, 1, 3, (CALM,)), ("pair", 0, 2, 1, 0, (), ()), ("bar",), ()):
            for bars in ((wrong,), (FLIGHT, wrong), (wrong, FLIGHT)):
                self.assertIs(False, self.held(bars, ((0, 0, 0),)), bars)
                self.assertIs(False, self.held(bars), bars)

    def test_places_that_the_menus_do_not_have(self):
        for at, wrong in ((1, 3), (1, -1), (1, -3), (2, 3), (2, -1), (2, -3), (2, 1)):
            self.assertIs(False, self.held((replaced(FLIGHT, (at,), wrong),)), (at, wrong))
            self.assertIs(False, self.held((replaced(TASK, (at,), wrong if wrong != 1 else 2),)), (at, wrong))
        for at in (1, 2, 3, 4):
            for wrong in (-1, -2, 3, 10 ** 30):
                self.assertIs(False, self.held((replaced(PAIR, (at,), wrong),)))
        for path in ((2, 0, 0), (2, 0, 1), (2, 1, 0), (2, 1, 1)):
            for wrong in (-1, -2, 3, 10 ** 30):
                self.assertIs(False, self.held((replaced(HOMES, path, wrong),)))
        for number in (-3, -1, 1, 2, 3):
            self.assertIs(False, self.held((replaced(HOMES, (1,), number),)))

    def test_by_names(self):
        told = bars_hold(
            surely=True, apart=1, thing=(TASK,), since=0, choices=((1, 0, 0),), menus=MENUS, winds=WINDS, land=LAND)
        self.assertIs(True, told)


class FlightBars(Asking):
    def test_turns_and_runs_that_do_not_break(self):
        for turn in (1, 2, 3):
            self.assertIs(True, self.held((("flight", 0, 0, turn, (CALM,)),)))
            self.assertIs(True, self.held((("flight", 0, 0, turn, ((1, 0),)),)))
        # Turned at since it goes home, and no run breaks.
        for turn in (0, None, -1, 4, True):
            self.assertIs(False, self.held((("flight", 0, 0, turn, (CALM,)),)), turn)
        for run in ((), (CALM, CALM), ((0, 1),), (CALM, None), [CALM], None, ((0, False),)):
            self.assertIs(False, self.held((("flight", 0, 0, 3, run),)), run)

    def test_late(self):
        menus = ((a_flight(5, 0, STAND, STAND),),)
        self.assertIs(True, self.held((("flight", 0, 0, 3, (CALM,) * 3),), ((0,),), menus))
        self.assertIs(False, self.held((("flight", 0, 0, 3, (CALM,) * 2),), ((0,),), menus))
        self.assertIs(True, self.held((("flight", 0, 0, 3, ()),), menus=menus, since=3))


class TaskBars(Asking):
    def test_where_surely_alone(self):
        self.assertIs(True, self.held((TASK,), surely=True))
        self.assertIs(False, self.held((TASK,), surely=False))
        self.assertIs(False, bars_hold(LAND, WINDS, MENUS, (), 0, (TASK,)))
        self.assertIs(True, bars_hold(LAND, WINDS, MENUS, (), 0, (FLIGHT, PAIR, HOMES)))

    def test_a_flight_without_a_task(self):
        self.assertIs(False, self.held((replaced(TASK, (2,), 2),)))
        plain = ((LOOKS[:3] + (None, 0),),)
        self.assertIs(False, self.held((("task", 0, 0, (CALM,) * 3),), menus=plain))

    def test_runs(self):
        done = ((1, 0), CALM, CALM)
        for run in (done, (), (CALM,), (CALM,) * 2, (CALM,) * 4, ((0, 1), CALM, CALM), [CALM] * 3, None):
            self.assertIs(False, self.held((("task", 0, 1, run),)), run)
        self.assertIs(True, self.held((("task", 0, 1, ()),), since=3))

    def test_runs_that_break_or_are_late(self):
        task = ("look", (4, 2, 4, 2), 1, 3)
        breaks, late = (*OUT[:3], task, 0), a_flight(5, 0, STAND, STAND, STAND, task=task)
        menus = ((breaks, late),)
        self.assertIs(False, self.held((("task", 0, 0, (CALM,)),), menus=menus))
        self.assertIs(False, self.held((("task", 0, 0, (CALM,) * 3),), menus=menus))
        # One that is late doesn't break.
        self.assertIs(True, self.held((("task", 0, 1, (CALM,) * 3),), menus=menus))


class PairBars(Asking):
    def test_j_below_k(self):
        self.assertIs(False, self.held((("pair", 1, 1, 0, 2, (), ()),)))
        self.assertIs(False, self.held((("pair", 0, 2, 0, 2, (), ()),)))
        self.assertIs(True, self.held((("pair", 0, 1, 1, 0, (), ()),)))
        self.assertIs(True, self.held((("pair", 0, 1, 2, 0, (), ()),)))

    def test_runs_that_do_not_come_near(self):
        # From (1, 0) both, the one by its task's way, the other home at once.
        self.assertIs(True, self.held((("pair", 0, 1, 1, 0, (), ()),)))
        for run, other in (((CALM,), (CALM,)), ((), (CALM,)), ((CALM,), ((1, 0),)), ([], ()), ((), None), ((0,), (0,))):
            self.assertIs(False, self.held((("pair", 0, 1, 1, 0, run, other),)), (run, other))

    def test_by_this_apart(self):
        menus = ((a_flight(1, 0),), (a_flight(2, 2),))
        bar = ("pair", 0, 0, 1, 0, (), ())
        for apart in (1, 2, 3):
            self.assertIs(apart == 3, self.held((bar,), ((0, 0),), menus, apart=apart))
        self.assertIs(False, self.held((bar,), menus=menus))


class PadBars(Asking):
    def test_no_more_rows_than_it_has_room_for(self):
        self.assertIs(True, self.held((HOMES,)))
        land = Land(6, 3, day=3, pads=((0, 0, 0, 2, 2), *LAND.pads[1:]))
        self.assertIs(False, self.held((HOMES,), land=land))
        three = replaced(HOMES, (2,), HOMES[2] + ((2, 0, ()),))
        self.assertIs(True, self.held((three,), land=land))
        self.assertIs(True, self.held((three,)))
        for rows in ((), HOMES[2][:1], HOMES[2][1:]):
            self.assertIs(False, self.held((replaced(HOMES, (2,), rows),)))

    def test_rows_that_rise_with_unlike_menus(self):
        self.assertIs(False, self.held((replaced(HOMES, (2,), HOMES[2][::-1]),)))
        self.assertIs(False, self.held((("pad", 0, ((0, 1, ()), (0, 2, ()))),)))
        self.assertIs(False, self.held((("pad", 0, ((0, 2, ()), (0, 2, ()))),)))
        self.assertIs(False, self.held((("pad", 0, ((0, 1, ()), (0, 2, ()), (1, 0, ()))),)))
        self.assertIs(True, self.held((("pad", 0, ((0, 1, ()), (1, 0, ()))),)))

    def test_runs(self):
        for run in ((), (CALM, CALM), ((1, 0),), [CALM], None, ((0, 1),)):
            self.assertIs(False, self.held((replaced(STANDS, (2, 0, 2), run),), menus=STAND_MENUS), run)
        for run in ((CALM,), None, []):
            self.assertIs(False, self.held((replaced(STANDS, (2, 1, 2), run),), menus=STAND_MENUS), run)
        # The other of the menu doesn't use the pad.
        self.assertIs(False, self.held((replaced(STANDS, (2, 1, 1), 1),), menus=STAND_MENUS))

    def test_a_stand_that_wind_leads_to(self):
        self.assertIs(True, self.held((replaced(STANDS, (2, 0, 2), (CALM,)),), menus=STAND_MENUS))
        menus = ((a_flight(1, 0, ("go", 1, 0), STAND),), STAND_MENUS[1])
        self.assertIs(True, self.held((replaced(STANDS, (2, 0, 2), ((1, 0),)),), menus=menus))
        self.assertIs(False, self.held((replaced(STANDS, (2, 0, 2), (CALM,)),), menus=menus))


class OfAnything(Asking):
    def test_no_bars(self):
        for thing in ANYTHING + (deep(30), [FLIGHT], {FLIGHT: 0}, FLIGHT, list(FLIGHT), ((FLIGHT,),)):
            self.assertIs(repr(thing) == "()", self.held(thing), thing)
            self.assertIs(False, self.held(thing, ((0, 0, 0),)), thing)
        for thing in ANYTHING + (deep(28),):
            self.assertIs(False, self.held((thing,)), thing)
            self.assertIs(False, self.held((FLIGHT, thing)), thing)

    def test_each_part_spoilt_alone(self):
        for bar, menus, free in (
            (FLIGHT, MENUS, ()), (TASK, MENUS, ()), (PAIR, MENUS, ()), (HOMES, MENUS, ((2,),)), (STANDS, STAND_MENUS, ((2,),)),
        ):
            for wrong in spoiled(bar, free):
                self.assertIs(False, self.held((wrong,), menus=menus), wrong)
            for at, part in enumerate(bar):
                for thing in ANYTHING:
                    wrong = replaced(bar, (at,), thing)
                    if repr(wrong) != repr(bar):
                        self.assertIs(self.is_so(wrong, menus), self.held((wrong,), menus=menus), wrong)

    def is_so(self, bar, menus):
        """Whether a bar one part of which was changed is one still, as 1 for a turn of 3 is."""
        return repr(bar) in ("('flight', 0, 0, 1, ((0, 0),))",)


class OneByOne(Asking):
    def test_against_a_second_telling(self):
        held = {}
        for number in range(250):
            rand = random.Random(number)
            land, winds, menus, since = fair_menus(rand, judged)
            apart = rand.choice((1, 2, 3))
            bars = self.bars_of(rand, land, winds, menus, since, apart)
            for bar in bars + tuple(self.bent(rand, land, menus, bar) for bar in bars for k in range(3)):
                surely = rand.random() < 0.8
                wanted = is_bar_again(land, winds, menus, since, bar, apart, surely)
                named = {"apart": apart, "surely": surely}
                self.assertIs(wanted, self.held((bar,), (), menus, land, winds, since, **named), bar)
                held.setdefault((bar[0], wanted), 0)
                held[bar[0], wanted] += 1
            self.choices(rand, land, winds, menus, since, bars, apart)
        self.assertEqual({(sort, so) for sort in ("flight", "task", "pair", "pad") for so in (True, False)}, set(held))
        self.assertGreater(min(held.values()), 15, held)

    def bars_of(self, rand, land, winds, menus, since, apart):
        """Bars that are told of parts of the menus, too, so that there are some of each sort."""
        bars = []
        for k, menu in enumerate(menus):
            word, *told = sought(land, winds, (menu[-1:],), since, apart=apart, surely=True)
            if word == "none" and told[0][0][0] != "pad":
                sort, zero, place, *runs = told[0][0]
                bars.append((sort, k, len(menu) - 1, *runs))
        now = tuple(rand.randrange(len(menu)) for menu in menus)
        return tuple(bars) + mended(land, winds, menus, now, since, apart=apart)[-1]

    def bent(self, rand, land, menus, bar):
        """The bar with one of its numbers, or a wind of its runs, another one, of places that the menus have."""
        sort, *parts = bar
        if sort == "pad":
            rows = tuple((k, rand.randrange(len(menus[k])), run) for k, n, run in parts[1])
            rows = rows[:-1] if rand.random() < 0.2 else rows
            return sort, rand.randrange(len(land.pads)), rows
        if sort == "pair" and rand.random() < 0.5:
            run, other = parts[4:]
            return sort, *parts[:4], run[:-1], other[:-1]
        if rand.random() < 0.5:
            k = rand.randrange(len(menus))
            return sort, k, rand.randrange(len(menus[k])), *parts[2:]
        run = parts[-1]
        run = run[:-1] if rand.random() < 0.3 else tuple(rand.choice(((0, 0), (1, 0), (-1, 0), wind)) for wind in run)
        return sort, *parts[:-1], run

    def choices(self, rand, land, winds, menus, since, bars, apart):
        every = all_choices(menus)
        some = tuple(rand.choice(every) for k in range(rand.randrange(4)))
        wanted = all(any(does_bar_again(bar, choice) for bar in bars) for choice in some)
        self.assertIs(wanted, self.held(bars, some, menus, land, winds, since, apart=apart))
