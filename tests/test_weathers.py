import inspect
import random
import unittest

from tests.helping import a_case, told_so, unchanged
from windfleet.lands import Land
from windfleet.runs import walked
from windfleet.weathers import flown, weather_of
from windfleet.winds import is_weather, wind_by, winds_at

LAND = Land(5, 3, day=4, pads=((0, 0, 1, 2, 2),))
WINDS = (((0, 0, 4, 2, 0, 4), (-1, 1, 0, 0)),)
FLYER = (2, 9, 50, 3)
MADE = (FLYER, (2, 1, 0, 20), (("go", 1, 0), ("go", 0, 0)), None, 0)
EAST, CALM, WEST = (1, 0), (0, 0), (-1, 0)


class WeatherOf(unittest.TestCase):
    def asked(self, run, since=0, made=MADE, **named):
        return unchanged(self, weather_of, LAND, WINDS, made, since, run, **named)

    def test_of_no_winds(self):
        told_so(self, "none", (), self.asked(()))
        told_so(self, "none", (), self.asked((), 4))

    def test_squares_and_beats_of_the_run_rising(self):
        # It goes (2, 1), (2, 1), (3, 1), (2, 1), (0, 1).
        wanted = (((2, 1, 0), WEST), ((2, 1, 1), EAST), ((2, 1, 3), CALM), ((3, 1, 2), EAST))
        told_so(self, "rising", wanted, self.asked((WEST, EAST, EAST, CALM)))
        told_so(self, "short", wanted[:2] + wanted[3:], self.asked((WEST, EAST, EAST)))

    def test_beats_from_since_on(self):
        told_so(self, "since", (((2, 1, 2), WEST), ((2, 1, 3), EAST)), self.asked((WEST, EAST), 2))

    def test_the_wind_that_breaks_it_is_told_too(self):
        made = (FLYER, (4, 1, 0, 20), (("go", 0, 0), ("go", 1, 0)), None, 0)
        self.assertEqual("out", walked(LAND, WINDS, made, 0, (CALM, EAST))[1])
        told_so(self, "break", (((4, 1, 0), CALM), ((4, 1, 1), EAST)), self.asked((CALM, EAST), 0, made))

    def test_of_what_stands(self):
        made = (FLYER, (1, 1, 0, 20), (("stand",),), None, 0)
        told_so(self, "stand", (((1, 1, 0), EAST), ((1, 1, 1), WEST)), self.asked((EAST, WEST), 0, made))

    def test_with_a_turn(self):
        told_so(self, "turn", (((0, 1, 1), EAST), ((2, 1, 0), CALM)), self.asked((CALM, EAST), turn=0))
        told_so(self, "turn", (((2, 1, 0), CALM), ((3, 1, 1), EAST)), self.asked((CALM, EAST), turn=None))
        told_so(self, "turn", (((2, 1, 0), CALM), ((2, 1, 2), WEST), ((3, 1, 1), EAST)),
                self.asked((CALM, EAST, WEST), turn=1))

    def test_by_names(self):
        told = weather_of(turn=0, run=(CALM, EAST), since=0, flight=MADE, winds=WINDS, land=LAND)
        self.assertEqual((((0, 1, 1), EAST), ((2, 1, 0), CALM)), told)
        for ask in (weather_of, flown):
            self.assertEqual(inspect.Parameter.KEYWORD_ONLY, inspect.signature(ask).parameters["turn"].kind)
            self.assertIsNone(inspect.signature(ask).parameters["turn"].default)


class Flown(unittest.TestCase):
    def asked(self, weather, since=0, made=MADE, land=LAND, winds=WINDS, **named):
        return unchanged(self, flown, land, winds, made, since, weather, **named)

    def test_by_the_least_winds_where_nothing_is_told(self):
        states = ((2, 1, 0, 20), (2, 1, 0, 17), (1, 1, 0, 16), (1, 1, 0, 19), (1, 1, 0, 22))
        told_so(self, "least", (states, None), self.asked(()))

    def test_by_what_is_told_at_its_own_square_and_beat_alone(self):
        states = ((2, 1, 0, 20), (4, 1, 0, 18), (3, 1, 0, 17), (0, 1, 0, 14), (0, 1, 0, 17))
        for more in ((), (((3, 1, 1), EAST),), (((4, 1, 0), EAST), ((4, 1, 2), EAST))):
            self.assertEqual((states, None), self.asked((((2, 1, 0), EAST),) + more))
        states = ((2, 1, 0, 20), (4, 1, 0, 18), (4, 1, 0, 17), (2, 1, 0, 14), (1, 1, 0, 10))
        weather = (((2, 1, 0), EAST), ((2, 1, 3), EAST), ((4, 1, 1), CALM), ((4, 1, 2), CALM))
        self.assertEqual((states, None), self.asked(weather))

    def test_to_its_break(self):
        weather = (((2, 1, 0), EAST), ((4, 1, 1), EAST))
        told_so(self, "out", (((2, 1, 0, 20), (4, 1, 0, 18)), "out"), self.asked(weather))
        made = (FLYER, (2, 1, 0, 3), *MADE[2:])
        self.assertEqual((((2, 1, 0, 3), (2, 1, 0, 0)), "empty"), self.asked((), 0, made))
        made = (FLYER, (3, 1, 0, 3), (("stand",),), None, 0)
        self.assertEqual((((3, 1, 0, 3),), "nopad"), self.asked((), 0, made))

    def test_a_break_at_the_last_beat(self):
        made = (FLYER, (4, 1, 0, 20), (("go", 1, 0),), None, 0)
        self.assertEqual((((4, 1, 0, 20),), "out"), self.asked((((4, 1, 3), CALM),), 3, made))
        self.assertEqual((((4, 1, 0, 20), (4, 1, 0, 17)), "late"), self.asked((), 3, made))

    def test_a_start_that_hurts(self):
        land = Land(5, 3, day=4, pads=LAND.pads, barred=((2, 1, 2, 1, 1, 1),))
        told_so(self, "start", (((2, 1, 0, 20),), "barred"), self.asked((), 1, land=land))
        self.assertEqual(3, len(self.asked((), 2, land=land)[0]))

    def test_at_day(self):
        self.assertEqual((((2, 1, 0, 20),), "late"), self.asked((), 4))
        self.assertEqual((((1, 1, 0, 20),), None), self.asked((), 4, (FLYER, (1, 1, 0, 20), *MADE[2:])))

    def test_late(self):
        weather = (((2, 1, 3), EAST), ((3, 1, 2), CALM))
        self.assertEqual((((2, 1, 0, 20), (2, 1, 0, 17)), "late"), self.asked((), 3))
        self.assertEqual((((2, 1, 0, 20), (4, 1, 0, 18)), "late"), self.asked(weather, 3))

    def test_with_a_turn(self):
        self.assertEqual(((2, 1, 0, 20), (0, 1, 0, 17)), self.asked((((2, 1, 0), CALM),), turn=0)[0][:2])
        self.assertEqual(self.asked(()), self.asked((), turn=None))
        states = ((2, 1, 0, 20), (2, 1, 0, 17), (1, 1, 0, 13), (1, 1, 0, 16), (1, 1, 0, 19))
        self.assertEqual((states, None), self.asked((((2, 1, 1), EAST),), turn=1))
        self.assertEqual(self.asked(()), self.asked((), turn=4))

    def test_by_names(self):
        told = flown(turn=None, weather=(), since=4, flight=MADE, winds=WINDS, land=LAND)
        self.assertEqual((((2, 1, 0, 20),), "late"), told)


class Together(unittest.TestCase):
    def a_run(self, rand, land, winds, made, since, turn):
        run = ()
        while True:
            states, word = walked(land, winds, made, since, run, turn=turn)
            if word is not None or since + len(run) == land.day or rand.random() < 0.1:
                return run
            run += (rand.choice(winds_at(winds, states[-1][0], states[-1][1], since + len(run))),)

    def test_flown_under_the_weather_of_a_run_it_goes_by_that_run(self):
        whole = 0
        for seed in range(600):
            rand = random.Random(seed)
            land, winds, made = a_case(rand)
            since = rand.randrange(land.day + 1)
            turn = rand.choice((None, *range(since, land.day + 1)))
            run = self.a_run(rand, land, winds, made, since, turn)
            states, word = walked(land, winds, made, since, run, turn=turn)
            weather = unchanged(self, weather_of, land, winds, made, since, run, turn=turn)
            self.assertIs(True, is_weather(land, winds, weather))
            places = [(state[0], state[1], beat) for beat, state in enumerate(states, since)][:len(run)]
            self.assertEqual(sorted(places), [place for place, wind in weather])
            for place, wind in zip(places, run):
                self.assertEqual(wind, wind_by(winds, weather, *place))
            told = unchanged(self, flown, land, winds, made, since, weather, turn=turn)
            self.assertEqual(states, told[0][:len(states)])
            if word is not None or since + len(run) == land.day:
                self.assertEqual((states, word), told)
                whole += 1
        self.assertGreater(whole, 300)

    def test_what_is_flown_is_a_run(self):
        for seed in range(300):
            rand = random.Random(seed)
            land, winds, made = a_case(rand)
            states, word = flown(land, winds, made, 0, ())
            run = []
            for beat, state in enumerate(states):
                if beat < land.day:
                    run.append(winds_at(winds, state[0], state[1], beat)[0])
            if word is not None and walked(land, winds, made, 0, ())[1] is not None:
                run = []
            self.assertEqual((states, word), walked(land, winds, made, 0, tuple(run)))
