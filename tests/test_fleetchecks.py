import random
import unittest

from tests.helping import (
    ANYTHING, a_fair_fleet, deep, does_stand_again, replaced, runs_again, spoiled, unchanged,
)
from windfleet.fleetchecks import breach_holds, fleet_holds
from windfleet.fleets import fleet_told
from windfleet.judging import judged
from windfleet.lands import Land
from windfleet.lets import let_holds
from windfleet.pairs import paired

STAND = ("stand",)
FLYER = (2, 9, 50, 3)
PADS = ((0, 0, 0, 2, 2), (5, 0, 5, 2, 1), (3, 0, 3, 0, 1))
LAND = Land(6, 3, day=3, pads=PADS)
WINDS = (((0, 0, 5, 2, 0, 0), (0, 1, 0, 0)),)


def a_flight(x, y, *way, home=0, charge=50):
    return FLYER, (x, y, 0, charge), way, None, home


def a_land(*many, **rooms):
    return Land(6, 3, day=3, pads=tuple((*pad[:4], room) for pad, room in zip(PADS, many)), **rooms)


# One goes out by a wind or not and comes home, one stays at home, one is at home elsewhere.
FLEET = (a_flight(0, 0, ("go", 1, 0)), a_flight(0, 2, STAND), a_flight(5, 1, STAND, home=1))
TOLD = fleet_told(LAND, WINDS, FLEET, 0)


class FleetHolds(unittest.TestCase):
    def held(self, thing, fleet=FLEET, land=LAND, winds=WINDS, since=0, apart=1):
        told = unchanged(self, fleet_holds, land, winds, fleet, since, thing, apart=apart)
        self.assertIn(repr(told), ("True", "False"))
        return told

    def test_what_is_told(self):
        self.assertEqual("let", TOLD[0])
        self.assertIs(True, self.held(TOLD))
        self.assertIs(True, self.held(fleet_told(LAND, WINDS, FLEET[:1], 0), FLEET[:1]))

    def test_papers_by_another_hand(self):
        # Pairs of squares more than needed at day, and charges owed.
        wider = replaced(TOLD, (2, 0, 3), tuple(sorted(TOLD[2][0][3] + ((1, 0, 4, 2),))))
        self.assertIs(True, self.held(wider))
        self.assertIs(False, self.held(replaced(TOLD, (2, 0, 3), tuple(sorted(TOLD[2][0][3] + ((1, 0, 1, 0),))))))
        owed = replaced(TOLD, (1, 1, 1, 3), tuple((*state[:3], 0) for state in TOLD[1][1][1][3]))
        self.assertIs(True, self.held(owed))

    def test_too_many_or_too_few(self):
        for at in (1, 2):
            self.assertIs(False, self.held(replaced(TOLD, (at,), TOLD[at][:-1])))
            self.assertIs(False, self.held(replaced(TOLD, (at,), TOLD[at] + TOLD[at][-1:])))
            self.assertIs(False, self.held(replaced(TOLD, (at,), ())))
        self.assertIs(False, self.held(TOLD, FLEET[:2]))
        self.assertIs(False, self.held(TOLD, FLEET + FLEET[:1]))
        self.assertIs(False, self.held(("let", TOLD[1][:2], TOLD[2])))
        self.assertIs(True, self.held(("let", TOLD[1][:2], TOLD[2][:1]), FLEET[:2]))
        self.assertIs(False, self.held(("let", (), ())))

    def test_in_another_order(self):
        for at in (1, 2):
            for first, second, third in ((1, 0, 2), (0, 2, 1), (2, 1, 0)):
                parts = TOLD[at]
                self.assertIs(False, self.held(replaced(TOLD, (at,), (parts[first], parts[second], parts[third]))))
        self.assertIs(False, self.held(TOLD, FLEET[::-1]))
        # The two of a pair the other way round.
        turned = tuple(tuple(sorted((u, v, x, y) for x, y, u, v in layer)) for layer in TOLD[2][0])
        self.assertIs(False, self.held(replaced(TOLD, (2, 0), turned)))

    def test_each_paper_counts(self):
        for k in range(3):
            self.assertIs(False, self.held(replaced(TOLD, (1, k, 0, 3), ())), k)
            self.assertIs(False, self.held(replaced(TOLD, (2, k, 3), ())), k)

    def test_apart_is_handed_on(self):
        fleet = (a_flight(1, 0), a_flight(2, 2))
        told = fleet_told(LAND, (), fleet, 0)
        self.assertEqual("let", told[0])
        for apart, wanted in ((1, True), (3, False)):
            self.assertIs(wanted, self.held(told, fleet, winds=(), apart=apart))
        self.assertIs(True, fleet_holds(LAND, (), fleet, 0, told))

    def test_pads_with_just_room_and_one_more(self):
        self.assertIs(True, self.held(TOLD, land=a_land(2, 1, 1)))
        # By the same papers, all so: home pad 0 has one too many.
        self.assertIs(False, self.held(TOLD, land=a_land(1, 1, 1)))
        home = FLEET[:2] + (a_flight(5, 1, STAND, home=1), a_flight(5, 2, STAND, home=1))
        for many in (1, 2):
            land = a_land(2, many, 1)
            singles = tuple(judged(land, WINDS, made, 0)[1] for made in home)
            pairs = tuple(paired(land, WINDS, home[j], home[k], 0)[1] for j in range(4) for k in range(j + 1, 4))
            self.assertIs(many == 2, self.held(("let", singles, pairs), home, land))

    def test_pads_under_a_stand_of_the_sets(self):
        visit, home = a_flight(3, 0, STAND), a_flight(3, 0, ("go", 0, 0), home=2)
        for many in (1, 2):
            land = a_land(2, 1, many)
            singles = tuple(judged(land, (), made, 0)[1] for made in (visit, home))
            pairs = (paired(land, (), visit, home, 0)[1],)
            self.assertEqual(len(pairs[0]), 4)
            self.assertIs(many == 2, self.held(("let", singles, pairs), (visit, home), land, ()))
        over = a_flight(3, 0, ("go", 0, 0))
        land = a_land(2, 1, 1)
        singles = tuple(judged(land, (), made, 0)[1] for made in (over, home))
        pairs = (paired(land, (), over, home, 0)[1],)
        self.assertIs(True, self.held(("let", singles, pairs), (over, home), land, ()))

    def test_sets_that_claim_a_stand_more_than_there_is(self):
        # By the paper it may stand on another pad, too, though no run leads there: the paper's sets count.
        stays, home = a_flight(0, 0, STAND), a_flight(3, 0, STAND, home=2)
        land = a_land(2, 1, 1)
        told = fleet_told(land, (), (stays, home), 0)
        self.assertIs(True, self.held(told, (stays, home), land, ()))
        paper = self.wider_paper(stays, told[1][0])
        self.assertIs(True, let_holds(land, (), stays, 0, paper))
        thing = replaced(told, (1, 0), paper)
        self.assertIs(False, self.held(thing, (stays, home), land, ()))
        self.assertIs(True, self.held(thing, (stays, home), a_land(2, 1, 2), ()))

    def wider_paper(self, made, paper):
        """The paper of a flight that stays at home, with a start on pad 2 besides."""
        beside = judged(LAND, (), (made[0], (3, 0, 0, 50), *made[2:]), 0)[1]
        return tuple(tuple(joined(one, other) for one, other in zip(*parts)) for parts in zip(paper, beside))

    def test_of_anything(self):
        for thing in ANYTHING + (deep(30), TOLD[1:], list(TOLD), TOLD + (None,), TOLD[:2], TOLD[1], TOLD[2]):
            self.assertIs(False, self.held(thing), thing)
        for word in ("", "lets", "Let", "apart", None, True, 0, ("let",)):
            self.assertIs(False, self.held((word, *TOLD[1:])))
        for thing in ANYTHING:
            self.assertIs(False, self.held(("let", thing, TOLD[2])))
            self.assertIs(False, self.held(("let", TOLD[1], thing)))
            self.assertIs(False, self.held(replaced(TOLD, (1, 2), thing)))
            self.assertIs(False, self.held(replaced(TOLD, (2, 2), thing)))

    def test_each_part_spoilt_alone(self):
        small = fleet_told(LAND, WINDS, FLEET[1:], 2)
        self.assertEqual("let", small[0])
        free = [(1, k, part, at) for k in (0, 1) for part in (0, 1) for at in (0, 1)] + [(2, 0, 0), (2, 0, 1)]
        for wrong in spoiled(small, free):
            self.assertIs(False, fleet_holds(LAND, WINDS, FLEET[1:], 2, wrong), wrong)

    def test_by_names(self):
        self.assertIs(True, fleet_holds(apart=1, thing=TOLD, since=0, fleet=FLEET, winds=WINDS, land=LAND))


def joined(one, other):
    """Two layers in one, with the least charges."""
    least = {}
    for state in one + other:
        least[state[:3]] = min(state[3], least.get(state[:3], state[3]))
    return tuple((*place, least[place]) for place in sorted(least))


class BreachHolds(unittest.TestCase):
    def held(self, thing, fleet, land=LAND, winds=WINDS, since=0, apart=1):
        told = unchanged(self, breach_holds, land, winds, fleet, since, thing, apart=apart)
        self.assertIn(repr(told), ("True", "False"))
        return told

    LATE = a_flight(5, 1, STAND, STAND, STAND)
    CALM = ((0, 0),) * 3

    def test_flight(self):
        fleet = (FLEET[0], self.LATE, self.LATE)
        self.assertEqual(("flight", 1), fleet_told(LAND, WINDS, fleet, 0)[:2])
        self.assertIs(True, self.held(fleet_told(LAND, WINDS, fleet, 0), fleet))
        # Of the least or not.
        self.assertIs(True, self.held(("flight", 2, 3, self.CALM), fleet))
        self.assertIs(True, self.held(("flight", 1, 3, self.CALM), fleet))
        self.assertIs(False, self.held(("flight", 0, 3, self.CALM), fleet))
        for k in (-1, 3, 4, True, False, None, "1", (1,), 10 ** 39):
            self.assertIs(False, self.held(("flight", k, 3, self.CALM), fleet), k)
        for turn in (-1, 4, None, True, "3"):
            self.assertIs(False, self.held(("flight", 1, turn, self.CALM), fleet), turn)
        for run in ((), self.CALM[:2], self.CALM + ((0, 0),), list(self.CALM), ((0, 1),) * 3, None):
            self.assertIs(False, self.held(("flight", 1, 3, run), fleet), run)

    NEAR = (a_flight(0, 0), a_flight(2, 1), a_flight(2, 1), a_flight(2, 1))

    def test_pair(self):
        told = fleet_told(LAND, (), self.NEAR, 0)
        self.assertEqual(("pair", 1, 2, (), ()), told)
        for j in range(-1, 5):
            for k in range(-1, 5):
                wanted = (j, k) in ((1, 2), (1, 3), (2, 3))
                self.assertIs(wanted, self.held(("pair", j, k, (), ()), self.NEAR, winds=()), (j, k))
        for number in (True, False, None, "1", (1,), 10 ** 39, -(10 ** 39)):
            self.assertIs(False, self.held(("pair", number, 2, (), ()), self.NEAR, winds=()))
            self.assertIs(False, self.held(("pair", 1, number, (), ()), self.NEAR, winds=()))
        for run in (((0, 0),), [], None, ((0, 1),), "", ((), ())):
            self.assertIs(False, self.held(("pair", 1, 2, run, ()), self.NEAR, winds=()))
            self.assertIs(False, self.held(("pair", 1, 2, (), run), self.NEAR, winds=()))

    def test_a_pair_by_its_order(self):
        winds = (((0, 0, 0, 2, 0, 0), (0, 1, 0, 0)),)
        fleet = (a_flight(0, 0, ("go", 1, 0)), a_flight(0, 1, ("go", 2, -1)))
        self.assertIs(True, self.held(("pair", 0, 1, ((1, 0),), ((0, 0),)), fleet, winds=winds))
        self.assertIs(False, self.held(("pair", 0, 1, ((0, 0),), ((1, 0),)), fleet, winds=winds))

    def test_apart_is_handed_on(self):
        fleet = (a_flight(1, 0), a_flight(2, 2))
        self.assertIs(True, self.held(("pair", 0, 1, (), ()), fleet, apart=3))
        self.assertIs(False, self.held(("pair", 0, 1, (), ()), fleet, apart=2))
        self.assertIs(False, breach_holds(LAND, WINDS, fleet, 0, ("pair", 0, 1, (), ())))

    HOMES = (a_flight(0, 0, STAND), a_flight(5, 0, STAND, home=1), a_flight(0, 1, STAND), a_flight(0, 2, STAND))

    def test_pad_of_homes(self):
        rows = ((0, ()), (2, ()), (3, ()))
        self.assertEqual(("pad", 0, rows), fleet_told(LAND, WINDS, self.HOMES, 0))
        self.assertIs(True, self.held(("pad", 0, rows), self.HOMES))
        for number in (-1, 1, 2, 3, False, None, "0", (0,), 10 ** 39):
            self.assertIs(False, self.held(("pad", number, rows), self.HOMES), number)
        # No more than it has room for.
        for fewer in (rows[:2], rows[1:], rows[:1], ()):
            self.assertIs(False, self.held(("pad", 0, fewer), self.HOMES), fewer)
            self.assertIs(len(fewer) == 2, self.held(("pad", 0, fewer), self.HOMES, a_land(1, 1, 1)), fewer)

    def test_rows_that_do_not_rise_or_have_one_twice(self):
        rows = ((0, ()), (2, ()), (3, ()))
        self.assertIs(True, self.held(("pad", 0, rows), self.HOMES, a_land(1, 1, 1)))
        for wrong in (rows[::-1], (rows[0], rows[2], rows[1]), rows + rows[-1:], rows[:1] * 3, (rows[0], rows[0], rows[1])):
            self.assertIs(False, self.held(("pad", 0, wrong), self.HOMES, a_land(1, 1, 1)), wrong)
        # Two runs of one flight rise as tuples, but it is one flight.
        fleet = (a_flight(3, 0, STAND, STAND), a_flight(0, 0))
        twice = ((0, ()), (0, ((0, 0),)))
        self.assertIs(False, self.held(("pad", 2, twice), fleet, a_land(1, 1, 1), ()))
        for row in twice:
            self.assertIs(True, self.held(("pad", 2, (row, (1, ()))), (fleet[0], a_flight(3, 0, home=2)), a_land(1, 1, 1), ()))

    def test_rows_of_flights_for_which_it_is_no_home(self):
        rows = ((0, ()), (1, ()), (2, ()))
        self.assertIs(False, self.held(("pad", 0, rows), self.HOMES))
        for k in (-1, 4, 10 ** 39):
            self.assertIs(False, self.held(("pad", 0, tuple(sorted(((0, ()), (2, ()), (k, ()))))), self.HOMES), k)
        for k in (True, None, "3", (3,), [3]):
            self.assertIs(False, self.held(("pad", 0, ((0, ()), (2, ()), (k, ()))), self.HOMES), k)
        # A truth is no number, though it equals one.
        self.assertIs(False, self.held(("pad", 0, ((False, ()), (2, ()), (3, ()))), self.HOMES))

    def test_where_it_is_home_the_run_is_of_no_winds(self):
        for run in (((0, 0),), [], None, "", 0, False, {}):
            self.assertIs(False, self.held(("pad", 0, ((0, run), (2, ()), (3, ()))), self.HOMES), run)

    # The first comes to pad 2 at beat 1 by a wind and stands, the second lives there.
    VISIT = (a_flight(1, 0, ("go", 1, 0), ("go", 0, 0), STAND, STAND), a_flight(3, 0, home=2))

    def test_runs_that_lead_to_a_stand(self):
        land = Land(6, 3, day=5, pads=PADS)
        for run, wanted in (
            (((1, 0), (0, 0)), True), (((1, 0), (0, 0), (0, 0)), True), (((0, 0), (0, 0)), False),
            (((1, 0),), False), ((), False), (((1, 0), (0, 0), (0, 0), (0, 0)), False),
            (((0, 0), (0, 0), (0, 0)), False), (((1, 0), (1, 0)), False), ([(1, 0), (0, 0)], False), (None, False),
            (((True, 0), (0, 0)), False),
        ):
            self.assertIs(wanted, self.held(("pad", 2, ((0, run), (1, ()))), self.VISIT, land), run)

    def test_by_no_winds(self):
        fleet = (a_flight(3, 0, STAND), a_flight(3, 0, home=2))
        self.assertIs(True, self.held(("pad", 2, ((0, ()), (1, ()))), fleet, winds=()))
        fleet = (a_flight(3, 0, ("go", 0, 0)), a_flight(3, 0, home=2))
        self.assertIs(False, self.held(("pad", 2, ((0, ()), (1, ()))), fleet, winds=()))
        fleet = (a_flight(2, 0, STAND), a_flight(3, 0, home=2))
        self.assertIs(False, self.held(("pad", 2, ((0, ()), (1, ()))), fleet, winds=()))

    def test_a_stand_at_the_last_beat_below_day_and_at_day(self):
        stands = a_flight(3, 0, STAND, STAND, STAND, STAND)
        fleet = (stands, a_flight(3, 0, home=2))
        for many in range(5):
            self.assertIs(many < 3, self.held(("pad", 2, ((0, ((0, 0),) * many), (1, ()))), fleet, winds=()), many)
        self.assertIs(False, self.held(("pad", 2, ((0, ()), (1, ()))), fleet, winds=(), since=3))

    def test_the_row_home_is_no_stand(self):
        fleet = (a_flight(3, 0), a_flight(3, 0, home=2))
        self.assertIs(False, self.held(("pad", 2, ((0, ()), (1, ()))), fleet, winds=()))

    def test_runs_that_break(self):
        # A stand at which the run breaks, or a start that hurts, uses nothing.
        fleet = (a_flight(3, 0, STAND, STAND), a_flight(0, 0), a_flight(3, 0, home=2))
        land = a_land(2, 1, 1, barred=((3, 0, 3, 0, 1, 1),))
        self.assertIs(True, self.held(("pad", 2, ((0, ()), (2, ()))), fleet, land, ()))
        self.assertIs(False, self.held(("pad", 2, ((0, ((0, 0),)), (2, ()))), fleet, land, ()))
        land = a_land(2, 1, 1, barred=((3, 0, 3, 0, 0, 0),))
        self.assertIs(False, self.held(("pad", 2, ((0, ()), (2, ()))), fleet, land, ()))

    def test_of_anything(self):
        fleet = self.HOMES
        told = ("pad", 0, ((0, ()), (2, ()), (3, ())))
        for thing in ANYTHING + (deep(30), list(told), told + (None,), told[:2], told[1:], ("let", (), ()), TOLD):
            self.assertIs(False, self.held(thing, fleet), thing)
        for thing in ANYTHING:
            self.assertIs(False, self.held(("pad", 0, thing), fleet))
            self.assertIs(False, self.held(("pad", 0, told[2] + (thing,)), fleet))
            if type(thing) is not int:
                self.assertIs(False, self.held(("pad", thing, told[2]), fleet))
                self.assertIs(False, self.held(("flight", thing, 3, self.CALM), (self.LATE, self.LATE)))

    def test_each_part_spoilt_alone(self):
        for told, fleet, winds in (
            (("flight", 1, 3, self.CALM), (FLEET[0], self.LATE), WINDS),
            (("pair", 0, 1, ((0, 0),), ((0, 0),)), (a_flight(1, 1, ("go", 1, 0)), a_flight(2, 1, ("go", -1, 0))), ()),
            (("pad", 2, ((0, ((0, 0),)), (1, ()))), (a_flight(3, 0, ("go", 0, 0), STAND), a_flight(3, 0, home=2)), ()),
        ):
            self.assertIs(True, self.held(told, fleet, winds=winds))
            for wrong in spoiled(told, [(2, 1, 1)]):
                self.assertIs(False, self.held(wrong, fleet, winds=winds), wrong)

    def test_the_words_of_the_others(self):
        for told, fleet, winds in (
            (("flight", 1, 3, self.CALM), (FLEET[0], self.LATE), WINDS),
            (("pair", 1, 2, (), ()), self.NEAR, ()),
            (("pad", 0, ((0, ()), (2, ()), (3, ()))), self.HOMES, WINDS),
        ):
            self.assertIs(True, self.held(told, fleet, winds=winds))
            for word in ("flight", "pair", "pad", "let", "", None, True, "Pad"):
                self.assertIs(word == told[0], self.held((word, *told[1:]), fleet, winds=winds))

    def test_by_names(self):
        told = breach_holds(apart=1, thing=("pair", 1, 2, (), ()), since=0, fleet=self.NEAR, winds=(), land=LAND)
        self.assertIs(True, told)

    def test_stands_against_all_runs(self):
        seen = {True: 0, False: 0}
        for number in range(500):
            rand = random.Random(number)
            land, winds, fleet, since = a_fair_fleet(rand, judged, most=1)
            made = (*fleet[0][:2], tuple(rand.choice((STAND, row)) for row in fleet[0][2]), *fleet[0][3:])
            for pad in range(2):
                if made[4] == pad:
                    continue
                # Others at home there, so that this one is just one too many.
                homes = tuple((*made[:4], pad) for k in range(land.pads[pad][4]))
                for told in runs_again(land, winds, made, since):
                    wanted = does_stand_again(land, made, since, pad, *told)
                    rows = ((0, told[0]),) + tuple((k + 1, ()) for k in range(len(homes)))
                    self.assertIs(wanted, breach_holds(land, winds, (made,) + homes, since, ("pad", pad, rows)))
                    seen[wanted] += 1
        self.assertGreater(min(seen.values()), 20)
