import random
import unittest

from tests.helping import (
    a_case, a_fair_flight, a_fair_land, fair_winds, is_let_again, runs_again, unchanged,
)
from windfleet.judging import judged
from windfleet.lands import Land
from windfleet.lets import break_holds, let_holds
from windfleet.runs import walked

LAND = Land(6, 2, day=4, pads=((0, 0, 0, 1, 2), (5, 0, 5, 1, 1)))
CALM = ()
FLYER = (2, 9, 30, 3)


class Asking(unittest.TestCase):
    def let(self, land, winds, made, since=0):
        """Checks that the flight is told to be let by, with a paper that holds; tells the paper."""
        told = unchanged(self, judged, land, winds, made, since)
        self.assertIsInstance(told, tuple)
        self.assertEqual(("let", 2), (told[0], len(told)))
        sets, needs = told[1]
        self.assertEqual([land.day - since + 1] * 2, [len(sets), len(needs)])
        self.assertIs(True, unchanged(self, let_holds, land, winds, made, since, told[1]))
        return told[1]

    def breaks(self, land, winds, made, since=0):
        """Checks that the flight is told to break, by a turn and a run that do; tells them and the word."""
        told = unchanged(self, judged, land, winds, made, since)
        self.assertIsInstance(told, tuple)
        self.assertEqual(("breaks", 3), (told[0], len(told)))
        word, turn, run = told
        self.assertIs(int, type(turn))
        self.assertIn(turn, range(since, land.day + 1))
        states, broken = walked(land, winds, made, since, run, turn=turn)
        self.assertIsNotNone(broken)
        self.assertIs(True, unchanged(self, break_holds, land, winds, made, since, (turn, run)))
        return turn, run, broken


class Told(Asking):
    def test_one_that_goes_out_and_comes_home(self):
        made = (FLYER, (0, 0, 0, 20), (("go", 2, 0),), None, 0)
        sets, needs = self.let(LAND, CALM, made)
        self.assertEqual([1, 1, 1, 1, 1], [len(layer) for layer in sets])
        self.assertEqual([(0, 0), (2, 0), (0, 0), (0, 0), (0, 0)], [layer[0][:2] for layer in sets])

    def test_every_wind_in_the_sets(self):
        winds = (((0, 0, 5, 1, 0, 0), (0, 1, 0, 1)),)
        made = (FLYER, (0, 0, 0, 20), (("go", 1, 0),), None, 0)
        sets, needs = self.let(LAND, winds, made)
        self.assertLessEqual({(1, 0), (1, 1), (2, 0), (2, 1)}, {state[:2] for state in sets[1]})

    def test_a_start_that_hurts(self):
        hurting = (
            ("barred", Land(3, 1, day=3, pads=((0, 0, 2, 0, 1),), barred=((1, 0, 1, 0, 1, 1),))),
            ("people", Land(3, 1, day=3, pads=((0, 0, 2, 0, 1),), people=((2, 0, 2, 0, 1, 1),))),
            ("high", Land(3, 1, day=3, pads=((0, 0, 2, 0, 1),), heights=((0, 9, 0),))),
        )
        for word, land in hurting:
            made = ((2, 5, 30, 3), (1, 0, 0, 20), (), None, 0)
            turn, run, broken = self.breaks(land, CALM, made, 1)
            self.assertEqual(((), word), (run, broken))
        self.let(hurting[0][1], CALM, ((2, 5, 30, 3), (1, 0, 0, 20), (), None, 0), 2)

    def test_a_start_that_hurts_at_day(self):
        land = Land(3, 1, day=3, pads=((0, 0, 2, 0, 1),), barred=((1, 0, 1, 0, 3, 3),))
        made = (FLYER, (1, 0, 0, 20), (), None, 0)
        self.assertEqual((3, (), "barred"), self.breaks(land, CALM, made, 3))

    def test_since_at_day(self):
        home = (FLYER, (0, 1, 0, 0), (("go", 2, 2),), None, 0)
        self.assertEqual(("let", ((((0, 1, 0, 0),),), (((0, 1, 0, 0),),))), judged(LAND, CALM, home, 4))
        self.let(LAND, CALM, home, 4)
        self.assertEqual((4, (), "late"), self.breaks(LAND, CALM, (FLYER, (1, 1, 0, 30), (), None, 0), 4))
        self.assertEqual((4, (), "late"), self.breaks(LAND, CALM, (FLYER, (0, 1, 0, 30), (), None, 1), 4))

    def test_late_by_every_wind(self):
        made = ((1, 9, 30, 3), (5, 0, 0, 30), (), None, 0)
        winds = (((0, 0, 5, 1, 0, 4), (0, 0, 0, 0)),)
        self.assertEqual("late", self.breaks(LAND, winds, made)[2])
        # One square nearer it comes just in time.
        self.let(LAND, winds, ((1, 9, 30, 3), (4, 0, 0, 30), (), None, 0))

    def test_late_by_one_wind(self):
        made = ((1, 9, 30, 3), (4, 0, 0, 30), (), None, 0)
        winds = (((2, 0, 2, 0, 2, 2), (0, 1, 0, 0)),)
        turn, run, word = self.breaks(LAND, winds, made)
        self.assertEqual((((0, 0), (0, 0), (1, 0), (0, 0)), "late"), (run, word))

    def test_late_where_turned_at_one_beat_alone(self):
        land = Land(6, 2, day=3, pads=((0, 0, 0, 1, 2),))
        winds = (((2, 0, 2, 0, 2, 2), (2, 2, 0, 0)),)
        made = (FLYER, (4, 0, 0, 30), (("go", 0, 1), ("go", -2, 0), ("go", -2, 0)), None, 0)
        words = [list(runs_again(land, winds, made, 0, turn))[-1][2] for turn in range(4)]
        self.assertEqual([None, "late", None, None], words)
        self.assertEqual((1, ((0, 0), (0, 0), (2, 0)), "late"), self.breaks(land, winds, made))

    def test_broken_where_turned_at_one_beat_alone(self):
        land = Land(6, 2, day=3, pads=((0, 0, 0, 1, 2),), barred=((2, 0, 2, 0, 2, 2),))
        made = (FLYER, (4, 0, 0, 30), (("go", 0, 1), ("go", -2, 0), ("go", -2, 0)), None, 0)
        self.assertEqual((1, ((0, 0), (0, 0)), "barred"), self.breaks(land, CALM, made))

    def test_broken_on_its_way_alone(self):
        made = (FLYER, (2, 0, 0, 30), (("go", 0, 0), ("stand",)), None, 0)
        turn, run, word = self.breaks(LAND, CALM, made)
        self.assertEqual((((0, 0), (0, 0)), "nopad"), (run, word))
        self.assertGreaterEqual(turn, 2)

    def test_another_pad_than_home_is_late(self):
        made = (FLYER, (5, 0, 0, 30), (("stand",),) * 4, None, 0)
        self.assertEqual("late", self.breaks(LAND, CALM, made)[2])

    def test_by_names(self):
        made = (FLYER, (0, 1, 0, 0), (), None, 0)
        self.assertEqual("let", judged(since=4, flight=made, winds=(), land=LAND)[0])


def needed(land, winds, made, beat, x, y):
    """The least charge with which every wind leaves enough to come home from the square; None where none does."""
    for charge in range(100):
        start = ((made[0][0], 9, 99, 1), (x, y, 0, charge), (), None, 0)
        if all(told[2] is None for told in runs_again(land, winds, start, beat)):
            return charge
    return None


class Charge(Asking):
    def test_just_enough_to_come_home_from_each_square_and_one_less(self):
        land = Land(5, 4, day=4, pads=((0, 0, 1, 1, 2),))
        winds = (((2, 0, 3, 3, 0, 4), (0, 0, 0, 1)), ((0, 2, 4, 3, 1, 2), (-1, 0, 0, 0)))
        enough = {}
        for x in range(5):
            for y in range(4):
                made = ((2, 9, 99, 1), (x, y, 0, 99), (), None, 0)
                charge = needed(land, winds, made, 0, x, y)
                if charge is None:
                    self.breaks(land, winds, made)
                    continue
                enough[x, y] = charge
                self.let(land, winds, ((2, 9, 99, 1), (x, y, 0, charge), (), None, 0))
                if charge:
                    less = ((2, 9, 99, 1), (x, y, 0, charge - 1), (), None, 0)
                    self.assertEqual("empty", self.breaks(land, winds, less)[2])
        self.assertEqual(0, enough[1, 1])
        self.assertGreater(enough[4, 0], enough[2, 0])
        self.assertGreater(len(enough), 12)

    def test_enough_for_its_way_but_not_from_where_it_leads(self):
        # Out by two beats it has spent 6; home from there costs 6 once more.
        way = (("go", 2, 0), ("go", 2, 0))
        self.let(LAND, CALM, (FLYER, (0, 0, 0, 12), way, None, 0))
        turn, run, word = self.breaks(LAND, CALM, (FLYER, (0, 0, 0, 11), way, None, 0))
        self.assertEqual((4, "empty"), (len(run), word))

    def test_enough_for_its_way_but_not_where_turned(self):
        # On its way it gains on the other pad; turned at the first beats it can't come home.
        land = Land(6, 1, day=8, pads=((0, 0, 0, 0, 1), (3, 0, 3, 0, 1)))
        way = (("go", 1, 0), ("stand",), ("stand",))
        made = ((1, 9, 30, 9), (2, 0, 0, 3), way, None, 0)
        self.assertEqual({None}, {told[2] for told in runs_again(land, CALM, made, 0)})
        self.assertEqual("empty", self.breaks(land, CALM, made)[2])
        # Home from the other pad costs six, and two were spent to come there.
        self.let(land, CALM, ((1, 9, 30, 9), (2, 0, 0, 8), way, None, 0))
        self.assertEqual(1, self.breaks(land, CALM, ((1, 9, 30, 9), (2, 0, 0, 7), way, None, 0))[0])

    def test_standing_at_home_gains_for_the_way(self):
        land = Land(6, 1, day=9, pads=((0, 0, 0, 0, 1),))
        # Out by 3 + 2, back by 3 + 2: ten in all, three of them by each stand.
        for stands, charge, let in ((3, 1, True), (3, 0, False), (2, 4, True), (2, 3, False), (0, 10, True), (0, 9, False)):
            way = (("stand",),) * stands + (("go", 2, 0), ("go", 1, 0))
            made = ((2, 9, 30, 3), (0, 0, 0, charge), way, None, 0)
            if let:
                self.let(land, CALM, made)
            else:
                self.assertEqual("empty", self.breaks(land, CALM, made)[2])

    def test_the_load_counts(self):
        task = ("bring", (2, 0, 2, 0), (5, 1, 5, 1), 4, 0, 4)
        self.let(LAND, CALM, (FLYER, (0, 0, 0, 10), (("go", 2, 0),), task, 0))
        self.assertEqual("empty", self.breaks(LAND, CALM, (FLYER, (0, 0, 0, 9), (("go", 2, 0),), task, 0))[2])

    def test_a_wind_against_the_way_home_counts(self):
        winds = (((2, 0, 2, 0, 1, 1), (0, 1, 0, 0)),)
        made = (FLYER, (0, 0, 0, 9), (("go", 2, 0),), None, 0)
        # Out by 3, back by 3 and 1 against the wind, then from (1, 0) by 2.
        self.let(LAND, winds, made)
        made = (FLYER, (0, 0, 0, 8), (("go", 2, 0),), None, 0)
        self.assertEqual(((0, 0), (1, 0), (0, 0)), self.breaks(LAND, winds, made)[1])

    def test_two_runs_to_one_place_the_least_charge_counts(self):
        # By a calm it spends 1 + 1, blown back and then flying against the wind more, and both meet at (3, 0).
        land = Land(7, 1, day=6, pads=((0, 0, 0, 0, 1),))
        winds = (((2, 0, 2, 0, 1, 1), (-1, 0, 0, 0)), ((1, 0, 3, 0, 2, 2), (0, 0, 0, 0)))
        way = (("go", 2, 0), ("go", 1, 0), ("aim", 3, 0))
        for charge in range(8, 16):
            made = ((2, 9, 30, 1), (0, 0, 0, charge), way, None, 0)
            if is_let_again(land, winds, made, 0):
                self.let(land, winds, made)
            else:
                self.breaks(land, winds, made)


class OneByOne(Asking):
    def test_small_cases_against_all_runs_with_all_turns(self):
        words = {}
        for number in range(700):
            rand = random.Random(number)
            land, winds, made = a_case(rand, day=rand.randint(1, 4))
            self.judge_again(land, winds, made, rand.randint(0, land.day), words)
        self.assertEqual({"let", "late", "people", "empty", "out", "barred", "high", "nopad"}, set(words))

    def test_fair_cases_against_all_runs_with_all_turns(self):
        words = {}
        for number in range(900):
            rand = random.Random(number)
            land = a_fair_land(rand, rand.randint(3, 6))
            winds, made = fair_winds(rand, land), a_fair_flight(rand, land)
            self.judge_again(land, winds, made, rand.choice((0, 0, 0, 1, land.day)), words)
        self.assertGreater(words["let"], 100)
        self.assertGreater(words["empty"], 50)

    def judge_again(self, land, winds, made, since, words):
        if is_let_again(land, winds, made, since):
            self.let(land, winds, made, since)
            word = "let"
        else:
            turn, run, word = self.breaks(land, winds, made, since)
            again = {told[0]: told[2] for told in runs_again(land, winds, made, since, turn)}
            self.assertEqual(word, again[run])
        words[word] = words.get(word, 0) + 1


class Great(Asking):
    WINDS = (((0, 0, 11, 11, 0, 24), (-1, 1, -1, 1)),)
    # Five beats of drifting lead no farther than the land's ends, and back within four of aiming.
    DRIFT = (("go", 0, 0),) * 5 + ((("aim", 5, 5),) * 4 + (("go", 0, 0),) * 4) * 2

    def test_the_greatest_land_and_day_with_nine_winds(self):
        land = Land(12, 12, day=24, pads=((0, 0, 11, 11, 4),))
        for task in (None, ("over", (0, 0, 5, 11), 9, 0, 24), ("bring", (0, 0, 5, 11), (6, 0, 11, 11), 1, 0, 24)):
            made = ((2, 9, 99, 1), (5, 5, 0, 99), self.DRIFT, task, 0)
            told = judged(land, self.WINDS, made, 0)
            self.assertEqual("let", told[0])
            self.assertIs(True, let_holds(land, self.WINDS, made, 0, told[1]))
            self.assertEqual(121, len({state[:2] for state in told[1][0][5]}))
            farther = (made[0], made[1], (("go", 0, 0),) + self.DRIFT, task, 0)
            self.assertEqual("out", self.breaks(land, self.WINDS, farther)[2])

    def test_a_small_pad_amid_nine_winds(self):
        land = Land(12, 12, day=24, pads=((4, 4, 7, 7, 4),))
        winds = self.WINDS
        way = (("go", 1, 0), ("go", 1, 1), ("go", 0, 0))
        paper = self.let(land, winds, ((2, 9, 99, 1), (5, 5, 0, 99), way, None, 0))
        self.assertGreater(len(paper[0][3]), 40)
        turn, run, word = self.breaks(land, winds, ((2, 9, 99, 1), (5, 5, 0, 99), way + (("go", 2, 0),) * 2, None, 0))
        self.assertEqual("out", word)
        turn, run, word = self.breaks(land, winds, ((2, 9, 20, 1), (5, 5, 0, 20), way, None, 0))
        self.assertEqual("empty", word)
        turn, run, word = self.breaks(land, winds, ((1, 9, 99, 1), (5, 5, 0, 99), way, None, 0), 12)
        self.assertEqual("late", word)
