import random
import unittest

from tests.helping import a_case, beat_again, hurt_again, told_so, unchanged, winds_again
from windfleet.beats import row_at
from windfleet.lands import Land
from windfleet.reach import led, reached
from windfleet.runs import walked

LAND = Land(5, 3, day=4, pads=((0, 0, 1, 2, 2),))
WINDS = (((0, 0, 4, 2, 0, 4), (0, 1, 0, 0)),)
FLYER = (2, 9, 50, 3)
MADE = (FLYER, (1, 1, 0, 20), (("go", 1, 0), ("go", 0, 1)), None, 0)


def all_runs(land, winds, made, since):
    """All runs that don't break but by charge, one by one, for each beat with the states that they come to."""
    runs = [((), made[1])]
    if hurt_again(land, made[1][0], made[1][1], since, made[0][1]) is not None:
        runs = []
    told = [runs]
    for beat in range(since, land.day):
        behind = []
        for run, state in told[-1]:
            for wind in winds_again(winds, state[0], state[1], beat):
                come, word = beat_again(land, made, row_at(made, since, beat), beat, state, wind, owing=True)
                if word is None:
                    behind.append((run + (wind,), come))
        told.append(behind)
    return told


def leasts(states):
    """The least charge by each (x, y, step), rising."""
    least = {}
    for x, y, step, charge in states:
        least[x, y, step] = min(charge, least.get((x, y, step), charge))
    return tuple((*place, least[place]) for place in sorted(least))


def led_to(land, made, since, run):
    """The state to which winds lead, as if charge below 0 broke nothing."""
    state = made[1]
    for beat, wind in enumerate(run, since):
        state, word = beat_again(land, made, row_at(made, since, beat), beat, state, wind, owing=True)
    return state


class Reached(unittest.TestCase):
    def asked(self, made, since, land=LAND, winds=WINDS):
        return unchanged(self, reached, land, winds, made, since)

    def test_beat_by_beat(self):
        wanted = (
            ((1, 1, 0, 20),),
            ((2, 1, 0, 18), (3, 1, 0, 18)),
            ((2, 2, 0, 16), (3, 2, 0, 16), (4, 2, 0, 16)),
            # Home is wished to (0, 1); a wind against it costs one more.
            ((0, 1, 0, 12), (1, 1, 0, 11), (2, 1, 0, 11), (3, 1, 0, 11)),
            # What stands gains, but what comes from afar has less.
            ((0, 1, 0, 8), (1, 1, 0, 7), (2, 1, 0, 7)),
        )
        told_so(self, "beats", wanted, self.asked(MADE, 0))

    def test_from_since_to_day(self):
        for since in range(5):
            told = self.asked(MADE, since)
            self.assertEqual(5 - since, len(told))
            self.assertEqual(((1, 1, 0, 20),), told[0])

    def test_of_a_start_that_hurts_none(self):
        land = Land(5, 3, day=4, pads=LAND.pads, barred=((1, 1, 1, 1, 1, 1),))
        told_so(self, "hurts", ((), (), (), ()), self.asked(MADE, 1, land))
        self.assertEqual(3, len([told for told in self.asked(MADE, 2, land) if told]))
        for beat in range(5):
            self.assertIsNone(led(land, WINDS, MADE, 1, beat, 1, 1, 0))

    def test_charge_below_nought_breaks_nothing(self):
        made = (FLYER, (4, 1, 0, 1), (("go", 0, 0), ("go", 0, 0), ("go", -2, 0)), None, 0)
        told = self.asked(made, 0, winds=())
        wanted = (((4, 1, 0, 1),), ((4, 1, 0, 0),), ((4, 1, 0, -1),), ((2, 1, 0, -4),), ((0, 1, 0, -7),))
        told_so(self, "below", wanted, told)
        self.assertEqual("empty", walked(LAND, (), made, 0, ((0, 0),) * 2)[1])

    def test_standing_below_nought_gains(self):
        made = (FLYER, (3, 1, 0, 0), (("go", -2, 0), ("stand",), ("stand",)), None, 0)
        wanted = (((3, 1, 0, 0),), ((1, 1, 0, -3),), ((1, 1, 0, 0),), ((1, 1, 0, 3),), ((1, 1, 0, 6),))
        told_so(self, "gain", wanted, self.asked(made, 0, winds=()))

    def test_gain_up_to_full(self):
        made = ((2, 9, 9, 4), (1, 1, 0, 3), (("stand",),) * 4, None, 0)
        wanted = (((1, 1, 0, 3),), ((1, 1, 0, 7),), ((1, 1, 0, 9),), ((1, 1, 0, 9),), ((1, 1, 0, 9),))
        told_so(self, "full", wanted, self.asked(made, 0))

    def test_what_breaks_goes_on_nowhere(self):
        made = (FLYER, (3, 1, 0, 20), (("go", 1, 0), ("stand",)), None, 0)
        wanted = (((3, 1, 0, 20),), ((4, 1, 0, 18),), (), (), ())
        told_so(self, "nopad", wanted, self.asked(made, 0))

    def test_steps_are_told_apart(self):
        made = (FLYER, (1, 1, 0, 20), (("go", 1, 0), ("go", 0, 0)), ("look", (3, 1, 3, 1), 1, 1), 0)
        wanted = (((1, 1, 0, 20),), ((2, 1, 0, 18), (3, 1, 1, 18)),
                  ((2, 1, 0, 17), (3, 1, 0, 17), (3, 1, 1, 17), (4, 1, 1, 17)))
        told_so(self, "steps", wanted, self.asked(made, 0)[:3])

    def test_by_names(self):
        self.assertEqual((((1, 1, 0, 20),),), reached(since=4, flight=MADE, winds=WINDS, land=LAND))


class Led(unittest.TestCase):
    def asked(self, beat, x, y, step, since=0, made=MADE):
        return unchanged(self, led, LAND, WINDS, made, since, beat, x, y, step)

    def test_no_winds_lead_to_its_start(self):
        for since in range(5):
            told_so(self, "start", (), self.asked(since, 1, 1, 0, since))

    def test_the_one_run_that_leads_there(self):
        told_so(self, "one", ((0, 0),), self.asked(1, 2, 1, 0))
        told_so(self, "one", ((1, 0),), self.asked(1, 3, 1, 0))
        told_so(self, "two", ((1, 0), (1, 0)), self.asked(2, 4, 2, 0))

    def test_none_where_none_comes(self):
        for place in ((0, 0, 0), (1, 1, 1), (1, 1, -1), (2, 1, 0), (-1, -1, 0), (40, 40, 0), (10 ** 39, 0, 0)):
            self.assertIsNone(self.asked(0, *place))
        for place in ((1, 1, 0), (4, 1, 0), (2, 2, 0), (2, 1, 1), (-1, 5, 0)):
            self.assertIsNone(self.asked(1, *place))

    def test_none_of_beats_ahead_of_since(self):
        for since in range(1, 5):
            for beat in range(since):
                self.assertIsNone(self.asked(beat, 1, 1, 0, since))

    def test_the_least_charge_of_two(self):
        # Over the pad it stands and gains or flies around it; the ways meet again.
        land = Land(4, 1, day=3, pads=((0, 0, 0, 0, 1),))
        winds = (((1, 0, 1, 0, 0, 0), (-1, 0, 0, 0)), ((0, 0, 1, 0, 1, 1), (0, 1, 0, 0)))
        made = ((1, 9, 50, 9), (1, 0, 0, 20), (("go", 0, 0), ("home",), ("go", 0, 0)), None, 0)
        self.assertEqual(((0, 0, 0, 17), (1, 0, 0, 16)), reached(land, winds, made, 0)[2])
        self.assertEqual(((0, 0), (0, 0)), led(land, winds, made, 0, 2, 0, 0, 0))
        self.assertEqual(((0, 0), (1, 0)), led(land, winds, made, 0, 2, 1, 0, 0))

    def test_by_names(self):
        told = led(step=0, y=1, x=3, beat=1, since=0, flight=MADE, winds=WINDS, land=LAND)
        self.assertEqual(((1, 0),), told)


class OneByOne(unittest.TestCase):
    def test_small_cases_against_all_runs(self):
        below, several = 0, 0
        for seed in range(400):
            rand = random.Random(seed)
            land, winds, made = a_case(rand)
            since = rand.choice((0, 0, 1, land.day))
            runs = all_runs(land, winds, made, since)
            wanted = tuple(leasts([state for run, state in told]) for told in runs)
            told_so(self, seed, wanted, unchanged(self, reached, land, winds, made, since))
            for beat, states in enumerate(wanted, since):
                known = {run for run, state in runs[beat - since]}
                for x, y, step, least in states:
                    run = led(land, winds, made, since, beat, x, y, step)
                    self.assertIn(run, known)
                    self.assertEqual((x, y, step, least), led_to(land, made, since, run))
                    below += least < 0
                places = {state[:3] for state in states}
                for place in [(x, y, step) for x in range(-1, 6) for y in range(-1, 6) for step in range(4)]:
                    if place not in places and rand.random() < 0.1:
                        self.assertIsNone(led(land, winds, made, since, beat, *place))
                several += len(known) > len(states)
        self.assertGreater(below, 50)
        self.assertGreater(several, 50)


class Great(unittest.TestCase):
    LAND = Land(
        12, 12, day=24, pads=((4, 4, 6, 6, 4), (0, 0, 0, 0, 1)), barred=((9, 9, 9, 9, 3, 20),), people=((1, 9, 1, 9, 5, 6),),
    )
    WINDS = (((0, 0, 11, 11, 0, 24), (-1, 1, -1, 1)),)

    def test_the_greatest_land_and_day_with_nine_winds(self):
        tasks = (None, ("look", (8, 0, 11, 3), 0, 24), ("bring", (0, 0, 5, 11), (7, 2, 11, 4), 9, 2, 22),
                 ("over", (2, 2, 8, 8), 9, 0, 24))
        way = tuple((("go", 1, 0), ("aim", 2, 9), ("go", 0, 0), ("go", -1, -1))[k % 4] for k in range(24))
        for task in tasks:
            made = ((2, 9, 99, 1), (5, 5, 0, 60), way, task, 0)
            told = reached(self.LAND, self.WINDS, made, 0)
            self.assertEqual(25, len(told))
            for beat, states in enumerate(told):
                self.assertTrue(states)
                self.assertEqual(sorted({state[:3] for state in states}), [state[:3] for state in states])
                if beat not in (0, 1, 9, 24):
                    continue
                for x, y, step, least in (states[0], states[-1]):
                    run = led(self.LAND, self.WINDS, made, 0, beat, x, y, step)
                    self.assertEqual(beat, len(run))
                    self.assertEqual((x, y, step, least), led_to(self.LAND, made, 0, run))

    def test_every_square_is_come_to(self):
        made = ((0, 9, 99, 1), (5, 5, 0, 99), (("go", 0, 0),) * 24, None, 0)
        land = Land(12, 12, day=24, pads=((0, 0, 0, 0, 1),))
        told = reached(land, self.WINDS, made, 0)
        for beat, states in enumerate(told):
            wanted = tuple((x, y, 0, 99 - beat) for x in range(12) for y in range(12)
                           if max(abs(x - 5), abs(y - 5)) <= beat)
            self.assertEqual(wanted, states)
        self.assertEqual(((1, 1),) * 6, led(land, self.WINDS, made, 0, 6, 11, 11, 0))
