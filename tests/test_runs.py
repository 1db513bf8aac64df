import inspect
import itertools
import random
import unittest

from tests.helping import (
    ANYTHING, a_case, beat_again, deep, hurt_again, spoiled, squares_of, told_so, unchanged, winds_again,
)
from windfleet.beats import row_at
from windfleet.lands import Land
from windfleet.runs import walked

FLYER = (2, 9, 50, 3)
LAND = Land(5, 3, day=4, pads=((0, 0, 1, 2, 2),))
WINDS = (((0, 0, 4, 2, 0, 4), (0, 1, 0, 0)),)
EAST = (1, 0)
CALM = (0, 0)


def flight(state=(1, 1, 0, 20), way=(("go", 1, 0),), task=None, home=0, flyer=FLYER):
    return flyer, state, way, task, home


class Walking(unittest.TestCase):
    def asked(self, made, since, thing, land=LAND, winds=WINDS, **named):
        return unchanged(self, walked, land, winds, made, since, thing, **named)

    def test_a_run_of_no_winds(self):
        told_so(self, "none", (((1, 1, 0, 20),), None), self.asked(flight(), 0, ()))
        told_so(self, "none", (((3, 1, 0, 20),), None), self.asked(flight((3, 1, 0, 20)), 3, ()))

    def test_a_run_to_day_that_is_home(self):
        states = ((1, 1, 0, 20), (2, 1, 0, 18), (0, 1, 0, 15), (0, 1, 0, 18), (0, 1, 0, 21))
        told_so(self, "home", (states, None), self.asked(flight(), 0, (CALM,) * 4))

    def test_winds_lead_it_on_and_are_told_for_what_stands_too(self):
        states = ((1, 1, 0, 20), (3, 1, 0, 18), (2, 1, 0, 14), (0, 1, 0, 11), (0, 1, 0, 14))
        told_so(self, "drift", (states, None), self.asked(flight(), 0, (EAST, EAST, CALM, EAST)))
        self.assertIsNone(self.asked(flight(), 0, (EAST, EAST, CALM, (0, 1))))

    def test_cut_short_each_part_of_a_run_is_one(self):
        run = (EAST, EAST, CALM, EAST)
        states, word = self.asked(flight(), 0, run)
        for many in range(4):
            self.assertEqual((states[:many + 1], None), self.asked(flight(), 0, run[:many]))

    def test_late_at_day_alone(self):
        made = flight(way=(("go", 1, 0),) * 4)
        states = ((1, 1, 0, 20), (2, 1, 0, 18), (3, 1, 0, 16), (4, 1, 0, 14))
        self.assertEqual((states, None), self.asked(made, 0, (CALM,) * 3))
        states = tuple((x, 1, 0, 20 - 2 * k) for k, x in enumerate((1, 2, 3, 4)))
        self.assertEqual((states, "late"), self.asked(made, 1, (CALM,) * 3))
        self.assertEqual((states[:3], None), self.asked(made, 1, (CALM,) * 2))

    def test_late_of_a_run_of_no_winds_at_day(self):
        self.assertEqual((((2, 1, 0, 20),), "late"), self.asked(flight((2, 1, 0, 20)), 4, ()))
        self.assertEqual((((1, 2, 0, 20),), None), self.asked(flight((1, 2, 0, 20)), 4, ()))
        self.assertIsNone(self.asked(flight((1, 2, 0, 20)), 4, (CALM,)))

    def test_late_over_another_pad(self):
        land = Land(5, 3, day=1, pads=((0, 0, 1, 2, 2), (3, 0, 4, 2, 1)))
        made = flight((4, 1, 0, 20), (("stand",),))
        self.assertEqual((((4, 1, 0, 20), (4, 1, 0, 23)), "late"), self.asked(made, 0, (CALM,), land, ()))

    def test_a_break_ends_it(self):
        made = flight((4, 1, 0, 20))
        told_so(self, "out", (((4, 1, 0, 20),), "out"), self.asked(made, 0, (CALM,)))
        self.assertIsNone(self.asked(made, 0, (CALM, CALM)))
        made = flight((1, 1, 0, 4), (("go", 1, 0),) * 4)
        self.assertEqual((((1, 1, 0, 4), (2, 1, 0, 2), (3, 1, 0, 0)), "empty"), self.asked(made, 0, (CALM,) * 3))
        self.assertIsNone(self.asked(made, 0, (CALM,) * 4))

    def test_a_break_at_day_is_no_lateness(self):
        made = flight((3, 1, 0, 20), (("go", 1, 0),) * 2)
        self.assertEqual((((3, 1, 0, 20), (4, 1, 0, 18)), "out"), self.asked(made, 2, (CALM, CALM)))

    def test_a_start_that_hurts(self):
        land = Land(5, 3, day=4, pads=LAND.pads, barred=((1, 1, 1, 1, 2, 2),), people=((4, 1, 4, 1, 0, 4),))
        told_so(self, "start", (((1, 1, 0, 20),), "barred"), self.asked(flight(), 2, (), land))
        self.assertIsNone(self.asked(flight(), 2, (CALM,), land))
        for since in (1, 3):
            self.assertEqual((((1, 1, 0, 20),), None), self.asked(flight(), since, (), land))
        self.assertEqual((((3, 0, 0, 20),), "people"), self.asked(flight((3, 0, 0, 20)), 4, (), land))
        high = Land(1, 1, day=2, heights=((4,),), pads=((0, 0, 0, 0, 1),))
        made = flight((0, 0, 0, 1), (), None, 0, (2, 3, 50, 3))
        self.assertEqual((((0, 0, 0, 1),), "high"), self.asked(made, 2, (), high, ()))

    def test_stand_where_no_pad_is(self):
        made = flight((3, 1, 0, 20), (("stand",),))
        self.assertEqual((((3, 1, 0, 20),), "nopad"), self.asked(made, 0, (CALM,)))

    def test_at_since_nothing_becomes(self):
        made = flight((3, 1, 0, 20), (("go", -1, 0),), ("look", (3, 1, 3, 1), 0, 4))
        self.assertEqual(((3, 1, 0, 20), (2, 1, 0, 18)), self.asked(made, 0, (CALM,))[0])
        made = flight((3, 1, 1, 20), (("go", -1, 0),), ("over", (3, 1, 3, 1), 3, 0, 4))
        self.assertEqual(((3, 1, 1, 20), (2, 1, 0, 18)), self.asked(made, 0, (CALM,))[0])

    def test_steps_and_loads_on_the_way(self):
        task = ("bring", (3, 1, 3, 1), (2, 1, 2, 1), 6, 0, 4)
        made = flight((2, 1, 0, 20), (("go", 1, 0), ("go", -1, 0), ("go", 0, 0)), task)
        states = ((2, 1, 0, 20), (3, 1, 1, 18), (2, 1, 2, 10), (2, 1, 2, 9), (0, 1, 2, 6))
        told_so(self, "bring", (states, None), self.asked(made, 0, (CALM,) * 4, winds=()))

    def test_it_goes_on_from_since(self):
        winds = (((0, 0, 4, 2, 2, 2), (1, 1, 1, 1)),)
        made = flight(way=(("go", 0, 0), ("go", 1, 0)))
        self.assertEqual(((1, 1, 0, 20), (1, 1, 0, 19), (3, 2, 0, 17)), self.asked(made, 1, (CALM, (1, 1)), winds=winds)[0])
        self.assertEqual(((1, 1, 0, 20), (2, 2, 0, 19), (3, 2, 0, 17)), self.asked(made, 2, ((1, 1), CALM), winds=winds)[0])


class NoRuns(unittest.TestCase):
    def asked(self, thing, since=0, winds=WINDS, **named):
        return unchanged(self, walked, LAND, winds, flight(), since, thing, **named)

    def test_a_wind_that_may_not_be_at_that_square_then(self):
        for wx in range(-2, 3):
            for wy in range(-2, 3):
                let = (wx, wy) in (CALM, EAST)
                self.assertEqual(let, self.asked(((wx, wy),)) is not None)
                self.assertEqual((wx, wy) == CALM, self.asked(((wx, wy),), winds=()) is not None)
        here = (((2, 1, 2, 1, 1, 1), (1, 1, 0, 0)),)
        self.assertIsNotNone(self.asked((CALM, EAST), winds=here))
        self.assertIsNone(self.asked((CALM, CALM), winds=here))
        self.assertIsNone(self.asked((CALM, EAST), 1, winds=here))
        self.assertIsNone(self.asked((EAST,), winds=here))

    def test_too_many_winds(self):
        for since in range(5):
            self.assertIsNotNone(self.asked((CALM,) * (4 - since), since))
            for more in (1, 2, 40):
                self.assertIsNone(self.asked((CALM,) * (4 - since + more), since))

    def test_spoiled(self):
        run = (EAST, CALM, CALM)
        self.assertIsNotNone(self.asked(run))
        for thing in spoiled(run, free=((),)):
            self.assertIsNone(self.asked(thing), thing)
            self.assertIsNone(self.asked(thing, turn=1), thing)

    def test_truths_are_no_winds(self):
        for thing in (((True, 0),), ((1, False),), ((False, False),), (CALM, (True, False))):
            self.assertIsNone(self.asked(thing), thing)

    def test_anything(self):
        for thing in (*ANYTHING, deep(30), CALM, [CALM], ([0, 0],), "((0, 0),)", {0: CALM}):
            if repr(thing) != "()":
                self.assertIsNone(self.asked(thing))


class Turning(unittest.TestCase):
    MADE = flight(way=(("go", 1, 0),) * 3)

    def asked(self, thing, **named):
        return unchanged(self, walked, LAND, WINDS, self.MADE, 0, thing, **named)

    def test_without_one_as_by_none(self):
        for run in ((), (CALM,) * 4, (EAST, CALM), (EAST, EAST), [CALM]):
            self.assertEqual(self.asked(run), self.asked(run, turn=None))

    def test_turn_by_turn(self):
        paths = {
            0: ((1, 1, 0, 20), (1, 1, 0, 23), (1, 1, 0, 26), (1, 1, 0, 29), (1, 1, 0, 32)),
            1: ((1, 1, 0, 20), (2, 1, 0, 18), (0, 1, 0, 15), (0, 1, 0, 18), (0, 1, 0, 21)),
            2: ((1, 1, 0, 20), (2, 1, 0, 18), (3, 1, 0, 16), (1, 1, 0, 13), (1, 1, 0, 16)),
            3: ((1, 1, 0, 20), (2, 1, 0, 18), (3, 1, 0, 16), (4, 1, 0, 14), (2, 1, 0, 11)),
        }
        for turn, path in paths.items():
            # Home is wished to (0, 1), the pad's middle.
            self.assertEqual((path, "late" if turn == 3 else None), self.asked((CALM,) * 4, turn=turn), turn)
        self.assertEqual((paths[3], "late"), self.asked((CALM,) * 4, turn=4))
        self.assertEqual((paths[3], "late"), self.asked((CALM,) * 4))

    def test_a_turn_is_counted_as_a_beat_not_from_since(self):
        told = walked(LAND, WINDS, self.MADE, 1, (CALM,) * 3, turn=2)
        self.assertEqual(((1, 1, 0, 20), (2, 1, 0, 18), (0, 1, 0, 15), (0, 1, 0, 18)), told[0])

    def test_a_turn_goes_by_its_name_alone(self):
        self.assertEqual(inspect.Parameter.KEYWORD_ONLY, inspect.signature(walked).parameters["turn"].kind)
        with self.assertRaises(TypeError):
            walked(LAND, WINDS, self.MADE, 0, (), 0)
        told = walked(turn=1, thing=(CALM,), since=0, flight=self.MADE, winds=WINDS, land=LAND)
        self.assertEqual((((1, 1, 0, 20), (2, 1, 0, 18)), None), told)


class Again(unittest.TestCase):
    def walked_again(self, land, winds, made, since, run, turn):
        states = [made[1]]
        word = hurt_again(land, states[0][0], states[0][1], since, made[0][1])
        for beat, wind in enumerate(run, since):
            if word is not None or beat >= land.day or wind not in winds_again(winds, *states[-1][:2], beat):
                return None
            row = ("home",) if turn is not None and beat >= turn else row_at(made, since, beat)
            state, word = beat_again(land, made, row, beat, states[-1], wind)
            states += [state] if word is None else []
        if word is None and since + len(run) == land.day and states[-1][:2] not in squares_of(land.pads[made[4]]):
            word = "late"
        return tuple(states), word

    def test_many_runs_held_against_a_second_telling(self):
        words = {}
        for seed in range(150):
            rand = random.Random(seed)
            land, winds, made = a_case(rand, day=3)
            since = rand.randrange(3)
            turn = rand.choice((None, *range(since, 4)))
            some = ((0, 0), (1, 0), (0, 1), (-1, 0), (1, -1))
            for many in range(5 - since):
                for run in itertools.product(some, repeat=many):
                    wanted = self.walked_again(land, winds, made, since, run, turn)
                    told_so(self, (seed, run), wanted, walked(land, winds, made, since, run, turn=turn))
                    words[wanted and wanted[1]] = True
        self.assertEqual({None, "nopad", "empty", "out", "high", "barred", "people", "late"}, set(words))
