import random
import unittest

from tests.helping import (
    ANYTHING, a_case, a_fair_flight, a_fair_land, beat_again, bent, deep, do_come_near_again, fair_winds, midway_again,
    near_again, replaced, runs_again, spoiled, unchanged, winds_again,
)
from windfleet.judging import judged
from windfleet.lands import Land
from windfleet.nears import apart_holds, near_holds
from windfleet.pairs import paired

LAND = Land(6, 3, day=3, pads=((0, 0, 0, 2, 3), (5, 0, 5, 2, 1)))
WINDS = (((0, 0, 5, 2, 0, 0), (0, 1, 0, 0)),)
FLYER = (2, 9, 50, 3)
ONE = (FLYER, (0, 0, 0, 50), (("go", 1, 0),), None, 0)
OTHER = (FLYER, (0, 2, 0, 50), (("go", 1, 0),), None, 0)
# The home of both is wished to (0, 1), by which both come to one square of the pad.
PAPER = (
    ((0, 0, 0, 2),),
    ((1, 0, 1, 2), (1, 0, 2, 2), (2, 0, 1, 2), (2, 0, 2, 2)),
    ((0, 1, 0, 1),),
    ((0, 1, 0, 1),),
)


def paper_again(land, winds, one, other, since, thing, apart):
    """Whether a paper of the right kinds is one, each condition told a second time."""
    beats = range(since, land.day)
    squares = {(x, y) for x in range(land.wide) for y in range(land.high)}
    if len(thing) != len(beats) + 1 or (*one[1][:2], *other[1][:2]) not in thing[0]:
        return False
    for layer in thing:
        if list(layer) != sorted(set(layer)):
            return False
        for pair in layer:
            if pair[:2] not in squares or pair[2:] not in squares or near_again(land, (pair[:2], pair[2:]), apart):
                return False
    for at, beat in enumerate(beats):
        for x, y, u, v in thing[at]:
            for wind in winds_again(winds, x, y, beat):
                for blown in winds_again(winds, u, v, beat):
                    if (x, y) == (u, v) and wind != blown:
                        continue
                    come = come_again(land, one, at, beat, (x, y), wind)
                    met = come_again(land, other, at, beat, (u, v), blown)
                    if come is None or met is None or (*come, *met) not in thing[at + 1]:
                        return False
                    if midway_again(land, ((x, y), (u, v)), (come, met), apart):
                        return False
    return True


def come_again(land, made, at, beat, square, wind):
    row = made[2][at] if at < len(made[2]) else ("home",)
    state, word = beat_again(land, made, row, beat, (*square, 0, 99), wind)
    return None if word is not None else state[:2]


class ApartHolds(unittest.TestCase):
    def held(self, thing, land=LAND, winds=WINDS, one=ONE, other=OTHER, since=0, apart=1):
        told = unchanged(self, apart_holds, land, winds, one, other, since, thing, apart=apart)
        self.assertIn(repr(told), ("True", "False"))
        return told

    def spoilt(self, path, part):
        self.assertIs(False, self.held(replaced(PAPER, path, part)), (path, part))

    def test_a_paper_by_another_hand(self):
        self.assertIs(True, self.held(PAPER))
        self.assertIs(True, self.held(paired(LAND, WINDS, ONE, OTHER, 0)[1]))

    def test_more_pairs_than_needed(self):
        # From (5, 1) a wind leads out.
        self.assertIs(False, self.held(replaced(PAPER, (0,), ((0, 0, 0, 2), (5, 1, 5, 1)))))
        more = replaced(PAPER, (1,), ((0, 0, 0, 2),) + PAPER[1])
        self.assertIs(False, self.held(more))
        # Both stand at home from then on.
        for at in (2, 3):
            more = replaced(more, (at,), ((0, 0, 0, 2),) + PAPER[at])
        self.assertIs(True, self.held(more))
        self.assertIs(True, self.held(replaced(more, (3,), more[3] + ((0, 2, 5, 0), (1, 1, 4, 0)))))
        self.assertIs(False, self.held(replaced(more, (3,), more[3] + ((1, 1, 1, 1),))))

    def test_a_beat_too_few_or_too_many(self):
        for thing in (PAPER[:-1], PAPER[1:], PAPER + PAPER[-1:], (), PAPER[:1]):
            self.assertIs(False, self.held(thing))
        self.assertIs(False, self.held(PAPER, since=1))
        self.assertIs(True, self.held((((0, 0, 0, 2),),), since=3))

    def test_tuples_that_do_not_rise(self):
        self.spoilt((1,), PAPER[1][::-1])
        self.spoilt((0,), PAPER[0] * 2)
        self.spoilt((3,), PAPER[3] * 2)
        self.spoilt((1,), PAPER[1][:1] + PAPER[1])

    def test_off_the_land(self):
        for pair in ((-1, 0, 0, 0), (6, 0, 0, 0), (0, -1, 0, 0), (0, 3, 0, 0), (0, 0, -1, 0), (0, 0, 6, 0),
                     (0, 0, 0, -1), (0, 0, 0, 3), (10 ** 39, 0, 0, 0), (0, 0, 0, -(10 ** 39))):
            self.spoilt((3,), tuple(sorted(PAPER[3] + (pair,))))
        for pair in ((0, 0, 5, 2), (5, 2, 0, 0)):
            self.assertIs(True, self.held(replaced(PAPER, (3,), tuple(sorted(PAPER[3] + (pair,))))))

    def test_both_starts_in_the_first(self):
        self.spoilt((0,), ())
        self.spoilt((0,), ((0, 2, 0, 0),))
        self.assertIs(False, self.held(PAPER, one=OTHER, other=ONE))
        self.assertIs(False, self.held(PAPER, other=(FLYER, (0, 1, 0, 50), *OTHER[2:])))
        self.assertIs(False, self.held(PAPER, one=(FLYER, (1, 0, 0, 50), *ONE[2:])))

    def test_what_comes_is_in_the_next(self):
        for at in range(4):
            self.spoilt((1,), PAPER[1][:at] + PAPER[1][at + 1:])
        self.spoilt((2,), ())
        self.spoilt((3,), ())
        self.spoilt((3,), ((0, 1, 0, 2),))

    def test_nothing_breaks_but_by_charge(self):
        for barred in ((2, 2, 2, 2, 1, 1), (1, 0, 1, 0, 1, 1), (0, 1, 0, 1, 3, 3)):
            land = Land(6, 3, day=3, pads=LAND.pads, barred=(barred,))
            self.assertIs(False, self.held(PAPER, land=land), barred)
        # A stand off the pads breaks by nopad, of the one or of the other.
        way = (("go", 1, 0), ("stand",))
        self.assertIs(False, self.held(PAPER, one=(FLYER, ONE[1], way, None, 0)))
        self.assertIs(False, self.held(PAPER, other=(FLYER, OTHER[1], way, None, 0)))
        poor = (FLYER, (0, 0, 0, 0), ONE[2], None, 0)
        self.assertIs(True, self.held(PAPER, one=poor))
        self.assertIs(True, self.held(PAPER, other=(FLYER, (0, 2, 0, 0), ONE[2], None, 0)))
        self.assertEqual("breaks", judged(LAND, WINDS, poor, 0)[0])

    def test_squares_that_are_near(self):
        # At day nothing goes on, so only their being near bars these.
        far = replaced(PAPER, (3,), PAPER[3] + ((1, 0, 3, 2),))
        self.assertIs(True, self.held(far))
        self.assertIs(True, self.held(far, apart=2))
        self.assertIs(False, self.held(far, apart=3))
        for pair, apart in (((1, 1, 1, 1), 1), ((1, 1, 2, 2), 2), ((1, 1, 2, 1), 2), ((1, 0, 3, 2), 3), ((3, 2, 1, 0), 3)):
            thing = replaced(PAPER, (3,), PAPER[3] + (pair,))
            for by in (1, 2, 3):
                self.assertIs(by < apart and self.held(PAPER, apart=by), self.held(thing, apart=by), (pair, by))
        # Over a pad, of the one or of the other, nothing is near.
        thing = replaced(PAPER, (3,), ((0, 0, 0, 0), (0, 1, 0, 1), (0, 1, 1, 1), (1, 1, 0, 1), (4, 2, 5, 2)))
        self.assertIs(True, self.held(thing, apart=1))
        near = replaced(PAPER, (0,), ((0, 0, 0, 2), (2, 1, 2, 1)))
        self.assertIs(False, self.held(near))

    def test_near_midway(self):
        one = (FLYER, (1, 1, 0, 50), (("go", 1, 0),), None, 0)
        other = (FLYER, (2, 1, 0, 50), (("go", -1, 0),), None, 0)
        paper = (((1, 1, 2, 1),), ((2, 1, 1, 1),), ((0, 1, 0, 1),), ((0, 1, 0, 1),))
        self.assertIs(False, self.held(paper, winds=(), one=one, other=other))
        # With a pad under one of the four squares they aren't.
        for square in ((1, 1), (2, 1)):
            land = Land(6, 3, day=3, pads=((0, 0, 0, 2, 3), (*square, *square, 1)))
            self.assertIs(True, self.held(paper, land=land, winds=(), one=one, other=other))
        rest = (FLYER, (2, 2, 0, 50), (("go", 0, 0),), None, 0)
        paper = (((1, 1, 2, 2),), ((2, 1, 2, 2),), ((0, 1, 0, 1),), ((0, 1, 0, 1),))
        self.assertIs(True, self.held(paper, winds=(), one=one, other=rest))
        self.assertIs(False, self.held(paper, winds=(), one=one, other=rest, apart=2))

    def test_one_wind_where_both_squares_are_one(self):
        one = (FLYER, (0, 0, 0, 50), (("go", 1, 0),), None, 0)
        other = (FLYER, (0, 0, 0, 50), (("go", 2, 0),), None, 0)
        paper = (((0, 0, 0, 0),), ((1, 0, 2, 0), (2, 0, 3, 0)), ((0, 1, 0, 1), (0, 1, 1, 1)), ((0, 1, 0, 1),))
        self.assertIs(True, self.held(paper, one=one, other=other))
        self.assertIs(False, self.held(replaced(paper, (1,), paper[1][:1]), one=one, other=other))
        self.assertIs(False, self.held(replaced(paper, (1,), paper[1][1:]), one=one, other=other))

    def test_of_anything(self):
        for thing in ANYTHING + (deep(30), ("apart", PAPER), list(PAPER), (PAPER,)):
            self.assertIs(False, self.held(thing), thing)
        for thing in ANYTHING:
            if thing != ():
                self.assertIs(False, self.held(PAPER[:3] + (thing,)))
            self.assertIs(False, self.held(PAPER[:3] + (PAPER[3] + (thing,),)))
        for wrong in spoiled(PAPER, [(at,) for at in range(4)]):
            self.assertIs(False, self.held(wrong), wrong)

    def test_truths_for_numbers_and_lists_for_tuples(self):
        self.spoilt((0, 0, 0), False)
        self.spoilt((1, 0, 2), True)
        self.spoilt((3, 0, 1), True)
        self.spoilt((3, 0, 3), True)
        for path in ((), (1,), (3,), (3, 0)):
            part = PAPER
            for at in path:
                part = part[at]
            self.spoilt(path, list(part))

    def test_apart_left_out_is_one(self):
        far = replaced(PAPER, (3,), PAPER[3] + ((1, 1, 2, 1),))
        self.assertIs(True, apart_holds(LAND, WINDS, ONE, OTHER, 0, far))
        self.assertIs(False, apart_holds(LAND, WINDS, ONE, OTHER, 0, far, apart=2))

    def test_by_names(self):
        told = apart_holds(apart=1, thing=PAPER, since=0, other=OTHER, one=ONE, winds=WINDS, land=LAND)
        self.assertIs(True, told)

    def test_papers_bent_by_chance(self):
        told = {True: 0, False: 0}
        for number in range(900):
            rand = random.Random(number)
            land = a_fair_land(rand, rand.randint(2, 4))
            winds = fair_winds(rand, land)
            since, apart = rand.choice((0, 0, 1, land.day)), rand.randint(1, 3)
            flights = [made for made in [a_fair_flight(rand, land) for k in range(6)]
                       if judged(land, winds, made, since)[0] == "let"]
            for one, other in zip(flights, flights[1:]):
                word, *paper = paired(land, winds, one, other, since, apart=apart)
                if word == "apart":
                    for again in range(5):
                        more = tuple(rand.randrange(4) for k in range(4))
                        thing, by = bent(rand, paper[0], more), rand.choice((apart, apart, 1, 2, 3))
                        wanted = paper_again(land, winds, one, other, since, thing, by)
                        self.assertIs(wanted, apart_holds(land, winds, one, other, since, thing, apart=by), (number, thing))
                        told[wanted] += 1
        self.assertGreater(min(told.values()), 200)


class NearHolds(unittest.TestCase):
    # One goes right by a wind to (2, 0) or (3, 0), then rests; the other comes to (3, 0) at the second beat.
    ONE = (FLYER, (1, 0, 0, 50), (("go", 1, 0), ("go", 0, 0)), None, 0)
    OTHER = (FLYER, (4, 2, 0, 50), (("go", 0, -1), ("go", -1, -1)), None, 0)
    WINDS = (((1, 0, 2, 0, 0, 0), (0, 1, 0, 0)),)
    GOOD = (((1, 0), (0, 0)), ((0, 0), (0, 0)))

    def held(self, thing, land=LAND, winds=WINDS, one=ONE, other=OTHER, since=0, apart=1):
        told = unchanged(self, near_holds, land, winds, one, other, since, thing, apart=apart)
        self.assertIn(repr(told), ("True", "False"))
        return told

    def test_runs_that_end_near(self):
        self.assertIs(True, self.held(self.GOOD))
        self.assertIs(False, self.held((((0, 0), (0, 0)), self.GOOD[1])))
        self.assertIs(False, self.held((self.GOOD[0][:1], self.GOOD[1][:1])))
        self.assertIs(False, self.held(((), ())))
        # Behind being near they go apart: what counts is the end.
        self.assertIs(False, self.held((self.GOOD[0] + ((0, 0),), self.GOOD[1] + ((0, 0),)), other=(
            FLYER, (4, 2, 0, 50), self.OTHER[2] + (("go", 2, 0),), None, 1)))

    def test_runs_unlike_in_length(self):
        rest = (FLYER, (3, 0, 0, 50), (("go", 0, 0),) * 3, None, 0)
        same = (((1, 0), (0, 0)), ((0, 0), (0, 0)))
        self.assertIs(True, self.held(same, other=rest))
        self.assertIs(False, self.held((same[0], same[1][:1]), other=rest))
        self.assertIs(False, self.held((same[0][:1], same[1]), other=rest))
        self.assertIs(False, self.held((same[0], same[1] + ((0, 0),)), other=rest))
        self.assertIs(False, self.held((same[0], ()), other=rest))

    def test_by_apart(self):
        for apart, wanted in ((1, False), (2, False), (3, True)):
            one, other = (FLYER, (1, 0, 0, 9), (), None, 0), (FLYER, (3, 2, 0, 9), (), None, 0)
            self.assertIs(wanted, self.held(((), ()), one=one, other=other, apart=apart))
            self.assertIs(wanted, self.held(((), ()), one=other, other=one, apart=apart))
        one, other = (FLYER, (1, 0, 0, 9), (), None, 0), (FLYER, (4, 0, 0, 9), (), None, 0)
        self.assertIs(False, self.held(((), ()), one=one, other=other, apart=3))

    def test_runs_that_break(self):
        self.assertIs(False, self.held(self.GOOD, one=(FLYER, (1, 0, 0, 2), *self.ONE[2:])))
        self.assertIs(True, self.held(self.GOOD, one=(FLYER, (1, 0, 0, 3), *self.ONE[2:])))
        self.assertIs(False, self.held(self.GOOD, other=(FLYER, (4, 2, 0, 4), *self.OTHER[2:])))
        self.assertIs(True, self.held(self.GOOD, other=(FLYER, (4, 2, 0, 5), *self.OTHER[2:])))
        for barred in ((3, 0, 3, 0, 2, 2), (3, 0, 3, 0, 1, 1), (4, 1, 4, 1, 1, 1)):
            land = Land(6, 3, day=3, pads=LAND.pads, barred=(barred,))
            self.assertIs(False, self.held(self.GOOD, land=land))

    def test_starts_that_hurt(self):
        made = (FLYER, (2, 0, 0, 9), (), None, 0)
        self.assertIs(True, self.held(((), ()), one=made, other=made))
        land = Land(6, 3, day=3, pads=LAND.pads, barred=((2, 0, 2, 0, 0, 0),))
        self.assertIs(False, self.held(((), ()), land=land, one=made, other=made))
        self.assertIs(True, self.held(((), ()), land=land, one=made, other=made, since=1))

    def test_late_is_no_break(self):
        made = ((1, 9, 50, 3), (4, 0, 0, 50), (("go", 0, 0),) * 3, None, 0)
        calm = ((0, 0),) * 3
        self.assertIs(True, self.held((calm, calm), one=made, other=made))
        self.assertIs(True, self.held(((), ()), one=made, other=made, since=3))

    def test_one_wind_at_one_square_and_beat(self):
        winds = (((0, 0, 0, 2, 0, 0), (0, 1, 0, 0)),)
        one, other = (FLYER, (0, 0, 0, 50), (("go", 1, 0),), None, 0), (FLYER, (0, 0, 0, 50), (("go", 2, 0),), None, 0)
        self.assertIs(False, self.held((((1, 0),), ((0, 0),)), winds=winds, one=one, other=other))
        beside = (FLYER, (0, 1, 0, 50), (("go", 2, -1),), None, 0)
        self.assertIs(True, self.held((((1, 0),), ((0, 0),)), winds=winds, one=one, other=beside))
        self.assertIs(True, self.held((((1, 0),), ((1, 0),)), winds=winds, one=one, other=one))
        self.assertIs(False, self.held((((1, 0),), ((0, 0),)), winds=winds, one=one, other=one))
        # At an earlier beat, too: both stand at one square of the pad, by winds that don't move them.
        later = [(FLYER, (0, 0, 0, 50), (("stand",), ("go", 2, 0)), None, 0) for k in range(2)]
        self.assertIs(True, self.held((((0, 0), (0, 0)), ((0, 0), (0, 0))), winds=winds, one=later[0], other=later[1]))
        self.assertIs(False, self.held((((0, 0), (0, 0)), ((1, 0), (0, 0))), winds=winds, one=later[0], other=later[1]))

    def test_midway(self):
        one = (FLYER, (1, 1, 0, 50), (("go", 1, 0),), None, 0)
        other = (FLYER, (2, 1, 0, 50), (("go", -1, 0),), None, 0)
        calm = (((0, 0),), ((0, 0),))
        self.assertIs(True, self.held(calm, winds=(), one=one, other=other))
        for square in ((1, 1), (2, 1)):
            land = Land(6, 3, day=3, pads=((0, 0, 0, 2, 3), (*square, *square, 1)))
            self.assertIs(False, self.held(calm, land=land, winds=(), one=one, other=other))
        # Midway of an earlier wind counts nothing.
        self.assertIs(False, self.held((((0, 0),) * 2, ((0, 0),) * 2), winds=(), one=one, other=other))

    def test_pads_at_each_of_the_four_squares(self):
        # All four squares unlike: (1, 1) to (3, 1), and (2, 0) to (2, 2), both midway at (2, 1).
        one = (FLYER, (1, 1, 0, 50), (("go", 2, 0),), None, 0)
        other = (FLYER, (2, 0, 0, 50), (("go", 0, 2),), None, 0)
        calm = (((0, 0),), ((0, 0),))
        self.assertIs(True, self.held(calm, winds=(), one=one, other=other))
        for square in ((1, 1), (3, 1), (2, 0), (2, 2), (2, 1)):
            land = Land(6, 3, day=3, pads=((0, 0, 0, 2, 3), (*square, *square, 1)))
            self.assertIs(square == (2, 1), self.held(calm, land=land, winds=(), one=one, other=other), square)

    def test_of_anything(self):
        for thing in ANYTHING:
            if thing != ((), ()):
                self.assertIs(False, self.held(thing), thing)
            self.assertIs(False, self.held((self.GOOD[0], thing)))
            self.assertIs(False, self.held((thing, self.GOOD[1])))
        for thing in (deep(30), ("near", *self.GOOD), self.GOOD + (None,), list(self.GOOD), self.GOOD[:1]):
            self.assertIs(False, self.held(thing), thing)
        for wrong in spoiled(self.GOOD):
            self.assertIs(False, self.held(wrong), wrong)
        self.assertIs(False, self.held((((True, 0), (0, 0)), self.GOOD[1])))
        self.assertIs(False, self.held((self.GOOD[0], ((0, 0), (0, False)))))

    def test_apart_left_out_is_one(self):
        one, other = (FLYER, (1, 0, 0, 9), (), None, 0), (FLYER, (2, 0, 0, 9), (), None, 0)
        self.assertIs(False, near_holds(LAND, (), one, other, 0, ((), ())))
        self.assertIs(True, near_holds(LAND, (), one, other, 0, ((), ()), apart=2))

    def test_by_names(self):
        told = near_holds(apart=1, thing=self.GOOD, since=0, other=self.OTHER, one=self.ONE, winds=self.WINDS, land=LAND)
        self.assertIs(True, told)

    def test_of_any_two_flights_against_a_second_telling(self):
        told = {True: 0, False: 0}
        for number in range(400):
            rand = random.Random(number)
            if number % 2:
                land, winds, one = a_case(rand, day=2)
                other = (one[0], (one[1][0], rand.randrange(land.high), one[1][2], 6), *one[2:])
            else:
                land = a_fair_land(rand, 3)
                winds = fair_winds(rand, land)
                one, other = a_fair_flight(rand, land), a_fair_flight(rand, land)
            apart = rand.randint(1, 3)
            for run, states, word in runs_again(land, winds, one, 0):
                for met, beyond, broken in runs_again(land, winds, other, 0):
                    wanted = len(run) == len(met) and {word, broken} <= {None, "late"} and do_come_near_again(
                        land, apart, (run, states), (met, beyond))
                    self.assertIs(wanted, near_holds(land, winds, one, other, 0, (run, met), apart=apart))
                    told[wanted] += 1
        self.assertGreater(min(told.values()), 100)
