import random
import unittest

from tests.helping import a_fair_fleet, fault_again, the_greatest_fleet, told_so, unchanged, users_again
from windfleet.bounds import APART
from windfleet.fleetchecks import breach_holds, fleet_holds
from windfleet.fleets import fleet_told
from windfleet.judging import judged
from windfleet.lands import Land
from windfleet.pairs import paired

LAND = Land(6, 4, day=6, pads=((0, 0, 0, 3, 4), (5, 0, 5, 3, 2), (3, 0, 3, 0, 1)))
FLYER = (2, 9, 50, 3)
STAND = ("stand",)


def a_flight(x, y, *way, home=0, charge=50):
    return FLYER, (x, y, 0, charge), way, None, home


def a_land(*many, day=6, **rooms):
    """The land with room for so many on its pads."""
    pads = tuple((*pad[:4], room) for pad, room in zip(LAND.pads, many))
    return Land(6, 4, day=day, pads=pads, **rooms)


class Asking(unittest.TestCase):
    def let(self, fleet, land=LAND, winds=(), since=0, apart=1):
        told = unchanged(self, fleet_told, land, winds, fleet, since, apart=apart)
        self.assertIsInstance(told, tuple)
        self.assertEqual(("let", 3), (told[0], len(told)))
        many = len(fleet)
        self.assertEqual([many, many * (many - 1) // 2], [len(told[1]), len(told[2])])
        self.assertIs(True, unchanged(self, fleet_holds, land, winds, fleet, since, told, apart=apart))
        self.assertIs(False, breach_holds(land, winds, fleet, since, told, apart=apart))
        return told

    def breach(self, fleet, land=LAND, winds=(), since=0, apart=1):
        told = unchanged(self, fleet_told, land, winds, fleet, since, apart=apart)
        self.assertIsInstance(told, tuple)
        self.assertEqual({"flight": 4, "pair": 5, "pad": 3}[told[0]], len(told))
        self.assertIs(True, unchanged(self, breach_holds, land, winds, fleet, since, told, apart=apart))
        self.assertIs(False, fleet_holds(land, winds, fleet, since, told, apart=apart))
        return told

    def crowd(self, fleet, land, winds=(), since=0):
        """The pad that is told to be too small, and who uses it."""
        told = self.breach(fleet, land, winds, since)
        self.assertEqual("pad", told[0])
        users = [k for k, run in told[2]]
        self.assertEqual(sorted(set(users)), users)
        self.assertGreater(len(users), land.pads[told[1]][4])
        return told[1], users


class Told(Asking):
    def test_let_of_one_to_four(self):
        fleet = (a_flight(0, 0), a_flight(2, 1), a_flight(5, 0, home=1), a_flight(2, 3, ("go", 0, 0)))
        for many in (1, 2, 3, 4):
            self.let(fleet[:many])

    def test_the_papers_of_each_and_of_each_two_in_order(self):
        fleet = (a_flight(0, 0), a_flight(2, 1), a_flight(5, 0, home=1), a_flight(2, 3))
        word, singles, pairs = self.let(fleet)
        for made, paper in zip(fleet, singles):
            self.assertIn(made[1], paper[0][0])
        twos = [(0, 1), (0, 2), (0, 3), (1, 2), (1, 3), (2, 3)]
        for (j, k), paper in zip(twos, pairs):
            self.assertIn(fleet[j][1][:2] + fleet[k][1][:2], paper[0])

    def test_the_least_flight_that_is_not_let_by(self):
        good, late = a_flight(0, 0), a_flight(5, 0, STAND, STAND, STAND, STAND, STAND)
        for fleet, k in (((late,), 0), ((good, late), 1), ((good, good, late, late), 2), ((late, good, late), 0)):
            self.assertEqual(("flight", k), self.breach(fleet)[:2])

    def test_the_least_two_that_are_not_apart(self):
        free, other = a_flight(0, 0), a_flight(5, 3, home=1)
        for fleet, twos in (
            ((a_flight(2, 1), a_flight(2, 1)), (0, 1)),
            ((a_flight(2, 1), free, a_flight(2, 1)), (0, 2)),
            ((free, a_flight(2, 1), other, a_flight(2, 1)), (1, 3)),
            ((free, other, a_flight(2, 1), a_flight(2, 1)), (2, 3)),
            # (0, 3) and (1, 2) both, the first of them is the least.
            ((a_flight(1, 0), a_flight(4, 2), a_flight(4, 2), a_flight(1, 0)), (0, 3)),
        ):
            self.assertEqual(("pair", *twos), self.breach(fleet)[:3])

    def test_apart_two_and_three(self):
        fleet = (a_flight(1, 0), a_flight(1, 3))
        for made in fleet:
            self.assertEqual("let", judged(LAND, (), made, 0)[0])
        for apart in (1, 2, 3):
            self.assertEqual("apart", paired(LAND, (), *fleet, 0, apart=apart)[0])
        fleet = (a_flight(1, 0), a_flight(2, 2))
        self.assertEqual("let", fleet_told(LAND, (), fleet, 0)[0])
        self.assertEqual(fleet_told(LAND, (), fleet, 0), fleet_told(LAND, (), fleet, 0, apart=APART))
        self.assertEqual(("pair", 0, 1, (), ()), self.breach(fleet, apart=3))

    def test_flight_ahead_of_pair_ahead_of_pad(self):
        land = a_land(1, 2, 1)
        near = (a_flight(2, 1), a_flight(2, 1))
        late = a_flight(5, 0, STAND, STAND, STAND, STAND, STAND)
        self.assertEqual(("flight", 2), self.breach(near + (late,), land)[:2])
        self.assertEqual(("pair", 0, 1), self.breach(near, land)[:3])
        self.assertEqual((0, [0, 1]), self.crowd((a_flight(2, 1), a_flight(0, 0)), land))

    def test_by_names(self):
        told = fleet_told(apart=1, since=6, fleet=(a_flight(0, 0),), winds=(), land=LAND)
        told_so(self, "one", ("let", (((((0, 0, 0, 50),),), (((0, 0, 0, 50),),)),), ()), told)


class Pads(Asking):
    def test_just_as_many_homes_as_it_has_room_for_and_one_more(self):
        fleet = tuple(a_flight(0, y) for y in range(4))
        for many in (1, 2, 3, 4):
            land = a_land(many, 1, 1)
            self.let(fleet[:many], land)
            if many < 4:
                told = self.breach(fleet[:many + 1], land)
                told_so(self, many, ("pad", 0, tuple((k, ()) for k in range(many + 1))), told)

    def test_the_least_pad(self):
        fleet = (a_flight(0, 0), a_flight(5, 0, home=1), a_flight(0, 1), a_flight(5, 1, home=1))
        self.assertEqual((0, [0, 2]), self.crowd(fleet, a_land(1, 1, 1)))
        self.assertEqual((1, [1, 3]), self.crowd(fleet, a_land(2, 1, 1)))
        self.let(fleet, a_land(2, 2, 1))

    def test_a_pad_used_by_standing_on_the_way(self):
        # One goes from home by a wind to the pad at (3, 0), stands there, and goes home.
        winds = (((0, 0, 0, 3, 0, 0), (0, 1, 0, 0)),)
        visit = a_flight(0, 0, ("aim", 2, 0), ("aim", 3, 0), STAND)
        home = a_flight(3, 0, home=2)
        self.let((visit,), winds=winds)
        told = self.breach((visit, home), winds=winds)
        self.assertEqual(("pad", 2, 0, 1), (*told[:2], told[2][0][0], told[2][1][0]))
        self.assertEqual(2, len(told[2][0][1]))
        self.assertEqual((1, ()), told[2][1])
        self.let((visit, home), a_land(4, 2, 2), winds)

    def test_standing_of_two_none_of_which_is_home(self):
        first = a_flight(1, 0, ("aim", 3, 0), STAND, ("aim", 1, 0))
        later = a_flight(1, 2, ("go", 0, 0), ("aim", 1, 1), ("aim", 3, 0), STAND)
        for made in (first, later):
            self.assertEqual("let", judged(LAND, (), made, 0)[0])
        self.assertEqual((2, [0, 1]), self.crowd((first, later), LAND))
        self.assertEqual(((0, ((0, 0),)), (1, ((0, 0),) * 3)), fleet_told(LAND, (), (first, later), 0)[2])
        self.let((first, later), a_land(4, 2, 2))

    def test_a_stand_at_since(self):
        visit = a_flight(3, 0, STAND)
        other = a_flight(3, 0, ("go", 0, 1), home=2)
        self.let((visit, a_flight(0, 0)))
        self.assertEqual(("pad", 2, ((0, ()), (1, ()))), self.breach((visit, other)))
        # Flown over, not stood on, it isn't used.
        over = a_flight(3, 0, ("go", 0, 0), ("go", 0, 0))
        self.let((over, other))

    def test_a_stand_as_late_as_one_let_by_can(self):
        # At the last beat below day it must come home, or stand there; a stand elsewhere is one beat ahead of that.
        land = Land(4, 1, day=3, pads=((0, 0, 0, 0, 1), (1, 0, 1, 0, 1)))
        visit = a_flight(1, 0, ("go", 0, 0), STAND)
        self.let((visit,), land)
        home = a_flight(1, 0, home=1)
        self.assertEqual(("pad", 1, ((0, ((0, 0),)), (1, ()))), self.breach((visit, home), land))
        self.assertEqual(("flight", 0), self.breach((a_flight(1, 0, ("go", 0, 0), STAND, STAND), home), land)[:2])
        self.let((a_flight(1, 0, ("go", 0, 0), ("go", -1, 0), STAND), a_flight(1, 0, STAND, STAND, STAND, home=1)), land)

    def test_a_stand_by_one_wind_alone(self):
        # By the wind it is over the pad at (3, 0) when its row is stand, else over the one beside it.
        pads = ((0, 0, 0, 0, 1), (3, 0, 3, 0, 1), (2, 0, 2, 0, 1))
        land = Land(5, 1, day=5, pads=pads)
        winds = (((1, 0, 1, 0, 0, 0), (0, 1, 0, 0)),)
        visit = a_flight(1, 0, ("go", 1, 0), STAND)
        self.let((visit,), land, winds)
        told = self.breach((visit, a_flight(3, 0, home=1)), land, winds)
        self.assertEqual(("pad", 1, ((0, ((1, 0),)), (1, ()))), told)
        told = self.breach((visit, a_flight(2, 0, home=2)), land, winds)
        self.assertEqual(("pad", 2, ((0, ((0, 0),)), (1, ()))), told)

    def test_runs_with_a_turn_use_nothing(self):
        # Turned at beat 1 it is over the pad at (2, 0) when its row were stand; by its way it stands at (5, 0).
        land = Land(6, 1, day=6, pads=((0, 0, 0, 0, 1), (2, 0, 2, 0, 1), (5, 0, 5, 0, 1)))
        visit = a_flight(4, 0, ("go", 0, 0), ("go", 1, 0), STAND)
        home = a_flight(2, 0, home=1)
        self.assertEqual([[0], [1], [0]], users_again(land, (), (visit, home), 0))
        paper = self.let((visit, home), land)[1][0]
        self.assertIn((2, 0), [state[:2] for state in paper[1][2]])
        self.assertNotIn((2, 0), [state[:2] for state in paper[0][2]])
        self.assertEqual((2, [0, 1]), self.crowd((visit, a_flight(5, 0, home=2)), land))

    def test_standing_at_its_home_counts_once(self):
        fleet = (a_flight(0, 0, STAND, STAND), a_flight(0, 1, STAND))
        self.let(fleet, a_land(2, 1, 1))
        self.assertEqual(("pad", 0, ((0, ()), (1, ()))), self.breach(fleet, a_land(1, 1, 1)))

    def test_three_more_than_room_on_one_pad(self):
        fleet = (a_flight(0, 0), a_flight(5, 0, home=1), a_flight(0, 2), a_flight(0, 3))
        self.assertEqual((0, [0, 2, 3]), self.crowd(fleet, a_land(2, 1, 1)))


class OneByOne(Asking):
    def test_against_all_runs(self):
        words = {}
        for number in range(700):
            rand = random.Random(number)
            land, winds, fleet, since = a_fair_fleet(rand, judged)
            apart = rand.choice((1, 1, 2, 3))
            fault = fault_again(land, winds, fleet, since, apart)
            if fault is None:
                self.let(fleet, land, winds, since, apart)
            else:
                told = self.breach(fleet, land, winds, since, apart)
                self.assertEqual(fault, told[:len(fault)])
            word = "let" if fault is None else fault[0]
            words[word] = words.get(word, 0) + 1
        self.assertEqual({"let", "flight", "pair", "pad"}, set(words))
        self.assertGreater(min(words.values()), 20)

    def test_the_greatest_of_what_is_promised(self):
        land, winds, fleet = the_greatest_fleet()
        for apart in (1, 2, 3):
            self.let(fleet, land, winds, 0, apart)
