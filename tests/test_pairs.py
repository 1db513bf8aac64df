import random
import unittest

from tests.helping import a_fair_flight, a_fair_land, all_nears_again, fair_winds, the_greatest_fleet, told_so, unchanged
from windfleet.bounds import APART
from windfleet.judging import judged
from windfleet.lands import Land
from windfleet.nears import apart_holds, near_holds
from windfleet.pairs import paired

LAND = Land(6, 3, day=4, pads=((0, 0, 0, 2, 3), (5, 0, 5, 2, 1)))
FLYER = (2, 9, 50, 3)


def a_flight(x, y, *way, home=0, reach=2):
    return (reach, 9, 50, 3), (x, y, 0, 50), way, None, home


class Asking(unittest.TestCase):
    def apart(self, winds, one, other, apart=1, since=0, land=LAND):
        told = unchanged(self, paired, land, winds, one, other, since, apart=apart)
        self.assertEqual(("apart", 2), (told[0], len(told)))
        self.assertEqual(land.day - since + 1, len(told[1]))
        self.assertIs(True, unchanged(self, apart_holds, land, winds, one, other, since, told[1], apart=apart))
        return told[1]

    def near(self, winds, one, other, apart=1, since=0, land=LAND):
        told = unchanged(self, paired, land, winds, one, other, since, apart=apart)
        self.assertEqual(("near", 3), (told[0], len(told)))
        self.assertIs(True, unchanged(self, near_holds, land, winds, one, other, since, told[1:], apart=apart))
        return told[1:]

    def let(self, winds, *flights, since=0, land=LAND):
        for made in flights:
            self.assertEqual("let", judged(land, winds, made, since)[0])


class Told(Asking):
    def test_near_at_since_by_runs_of_no_winds(self):
        one, other = a_flight(2, 1), a_flight(2, 1)
        self.let((), one, other)
        told_so(self, "since", ((), ()), self.near((), one, other))

    def test_near_at_since_by_apart(self):
        for apart in (1, 2, 3):
            for u in range(1, 5):
                for v in range(3):
                    one, other = a_flight(2, 1), a_flight(u, v)
                    self.let((), one, other)
                    if abs(u - 2) < apart and abs(v - 1) < apart:
                        told_so(self, (u, v), ((), ()), self.near((), one, other, apart))
                    else:
                        # No nearer at since; midway they may be.
                        told = paired(LAND, (), one, other, 0, apart=apart)
                        self.assertNotEqual(("near", (), ()), told)

    def test_pads_leave_out_near_at_since(self):
        for x, u in ((0, 0), (0, 1), (1, 0)):
            self.apart((), a_flight(x, 0, ("home",)), a_flight(u, 0), 1)
        self.apart((), a_flight(0, 0), a_flight(0, 0), 3)

    def test_since_at_day(self):
        self.assertEqual((((0, 0, 0, 0),),), self.apart((), a_flight(0, 0), a_flight(0, 0), 3, since=4))

    def test_near_at_a_beat(self):
        # Both come to (2, 0) at the same beat, from unlike ends, and midway they are no nearer than 2.
        one, other = a_flight(0, 0, ("go", 2, 0)), a_flight(4, 0, ("go", -2, 0))
        self.let((), one, other)
        self.assertEqual((((0, 0),), ((0, 0),)), self.near((), one, other))
        later = a_flight(4, 0, ("go", 0, 0), ("go", -2, 0))
        self.let((), later)
        self.apart((), one, later)

    def test_near_by_the_sums_of_y(self):
        one, other = a_flight(2, 0, ("go", 0, 1)), a_flight(2, 1, ("go", 0, -1))
        self.let((), one, other)
        self.assertEqual((((0, 0),), ((0, 0),)), self.near((), one, other))

    def test_near_midway_only(self):
        # They change squares: at no beat are they on one, midway both are.
        one, other = a_flight(1, 1, ("go", 1, 0)), a_flight(2, 1, ("go", -1, 0))
        self.let((), one, other)
        self.assertEqual((((0, 0),), ((0, 0),)), self.near((), one, other))

    def test_midway_beside_one_another(self):
        # Half a square apart midway: near by 1.
        one, other = a_flight(1, 1, ("go", 1, 0)), a_flight(2, 1, ("go", 0, 0))
        self.let((), one, other)
        self.assertEqual((((0, 0),), ((0, 0),)), self.near((), one, other))
        # Just a square apart midway, in x or in y: not near by 1, near by 2.
        for one, other in (
            (a_flight(1, 1, ("go", 1, 0)), a_flight(2, 1, ("go", 1, 0))),
            (a_flight(1, 0, ("go", 0, 1)), a_flight(1, 1, ("go", 0, 1))),
        ):
            self.let((), one, other)
            self.apart((), one, other)
            self.near((), one, other, 2)

    def test_pads_left_out_at_each_of_the_four_squares(self):
        # They change squares (2, 1) and (3, 1) at the first beat; a pad has one of the four, or none.
        one, other = a_flight(2, 1, ("go", 1, 0)), a_flight(3, 1, ("go", -1, 0))
        bare = Land(6, 3, day=4, pads=((0, 0, 0, 2, 3),))
        self.let((), one, other, land=bare)
        self.assertEqual((((0, 0),), ((0, 0),)), self.near((), one, other, land=bare))
        for square in ((2, 1), (3, 1)):
            land = Land(6, 3, day=4, pads=((0, 0, 0, 2, 3), (*square, *square, 1)))
            self.let((), one, other, land=land)
            told = paired(land, (), one, other, 0)
            self.assertNotEqual((((0, 0),), ((0, 0),)), told[1:])
        # One that goes two squares, midway over another that rests beside: pads at start and end of the one alone.
        one, other = a_flight(1, 1, ("go", 2, 0)), a_flight(2, 1, ("go", 0, 0))
        self.assertEqual((((0, 0),), ((0, 0),)), self.near((), one, other, land=bare))
        for square in ((1, 1), (3, 1), (2, 1)):
            land = Land(6, 3, day=4, pads=((0, 0, 0, 2, 3), (*square, *square, 1)))
            self.let((), one, other, land=land)
            told = paired(land, (), one, other, 0)
            self.assertNotEqual((((0, 0),), ((0, 0),)), told[1:], square)

    def test_one_wind_where_both_are_at_one_square(self):
        # Over the pad both are at one square; two winds would lead both to (2, 0), one wind never does.
        winds = (((0, 0, 0, 2, 0, 0), (0, 1, 0, 0)),)
        one, other = a_flight(0, 0, ("go", 1, 0)), a_flight(0, 0, ("go", 2, 0))
        self.let(winds, one, other)
        paper = self.apart(winds, one, other)
        self.assertEqual(((1, 0, 2, 0), (2, 0, 3, 0)), paper[1])
        # From two squares of the pad the winds may be unlike.
        beside = a_flight(0, 1, ("go", 2, -1))
        self.let(winds, beside)
        self.assertEqual((((1, 0),), ((0, 0),)), self.near(winds, one, beside))

    def test_over_a_pad_two_at_one_square(self):
        one, other = a_flight(0, 0, ("stand",), ("stand",)), a_flight(0, 0, ("stand",), ("go", 1, 0))
        self.let((), one, other)
        for apart in (1, 2, 3):
            self.apart((), one, other, apart)

    def test_near_by_one_of_the_winds_alone(self):
        winds = (((2, 0, 2, 2, 1, 1), (0, 1, 0, 0)),)
        one, other = a_flight(0, 0, ("go", 2, 0), ("go", 0, 0)), a_flight(4, 1, ("go", 0, 0), ("go", -1, -1))
        self.let(winds, one, other)
        self.assertEqual((((0, 0), (1, 0)), ((0, 0), (0, 0))), self.near(winds, one, other))

    def test_runs_that_break_come_near_nothing(self):
        # The one, not let by, breaks off the pads by its stand, and so comes to the other nowhere.
        one, other = a_flight(1, 0, ("stand",), ("go", 1, 0)), a_flight(3, 0, ("go", 0, 0), ("go", -1, 0))
        for first, second in ((one, other), (other, one)):
            self.assertEqual("apart", paired(LAND, (), first, second, 0)[0])

    def test_the_paper_has_all_pairs(self):
        winds = (((0, 0, 0, 2, 0, 0), (0, 1, 0, 0)), ((5, 0, 5, 2, 0, 0), (-1, 0, 0, 0)))
        one, other = a_flight(0, 0, ("go", 0, 0)), a_flight(5, 2, ("go", 0, 0), home=1)
        self.let(winds, one, other)
        paper = self.apart(winds, one, other)
        wanted = {(0, 0, 4, 2), (0, 0, 5, 2), (1, 0, 4, 2), (1, 0, 5, 2)}
        self.assertLessEqual(wanted, set(paper[1]))

    def test_apart_one_two_three(self):
        one, other = a_flight(1, 0), a_flight(3, 2)
        self.let((), one, other)
        self.apart((), one, other, 1)
        self.near((), one, other, 3)
        far = a_flight(5, 2, ("stand",), home=1)
        self.apart((), one, far, 3)
        self.assertEqual(((), ()), self.near((), one, other, 3))

    def test_apart_left_out_is_the_bound(self):
        one, other = a_flight(1, 0), a_flight(2, 2)
        self.assertEqual(paired(LAND, (), one, other, 0, apart=APART), paired(LAND, (), one, other, 0))
        self.assertNotEqual(paired(LAND, (), one, other, 0, apart=3), paired(LAND, (), one, other, 0))

    def test_by_names(self):
        told = paired(apart=1, since=4, other=a_flight(0, 0), one=a_flight(0, 0), winds=(), land=LAND)
        self.assertEqual("apart", told[0])


class OneByOne(Asking):
    def test_against_all_pairs_of_runs(self):
        told = {}
        for number in range(1200):
            rand = random.Random(number)
            land = a_fair_land(rand, rand.randint(2, 4))
            winds = fair_winds(rand, land)
            since = rand.choice((0, 0, 0, 0, 1, land.day))
            flights = [made for made in [a_fair_flight(rand, land) for k in range(12)]
                       if judged(land, winds, made, since)[0] == "let"]
            for one, other in zip(flights, flights[1:]):
                apart = rand.randint(1, 3)
                nears = all_nears_again(land, winds, one, other, since, apart)
                if nears:
                    self.assertIn(self.near(winds, one, other, apart, since, land), nears)
                else:
                    self.apart(winds, one, other, apart, since, land)
                told[apart, bool(nears)] = told.get((apart, bool(nears)), 0) + 1
        self.assertEqual(6, len(told))
        self.assertGreater(min(told.values()), 20)

    def test_the_greatest_of_what_is_promised(self):
        land, winds, (one, other, *rest) = the_greatest_fleet()
        self.let(winds, one, other, land=land)
        for apart in (1, 2, 3):
            paper = self.apart(winds, one, other, apart, land=land)
            self.assertGreater(len(paper[6]), 10)
        self.assertEqual("near", paired(land, winds, one, (*other[:2], (("go", 0, -2),), None, 1), 0, apart=3)[0])
