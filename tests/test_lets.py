import random
import unittest

from tests.helping import (
    ANYTHING, a_fair_flight, a_fair_land, beat_again, deep, fair_winds, hurt_again, replaced, runs_again, spoiled,
    squares_of, unchanged, winds_again,
)
from windfleet.judging import judged
from windfleet.lands import Land
from windfleet.lets import break_holds, let_holds

LAND = Land(6, 2, day=3, pads=((0, 0, 0, 1, 2), (5, 0, 5, 1, 1)))
WINDS = (((0, 0, 5, 1, 0, 0), (0, 1, 0, 0)),)
FLYER = (2, 9, 30, 3)
LOOK = ("look", (2, 0, 2, 0), 1, 1)
MADE = (FLYER, (0, 0, 0, 20), (("go", 1, 0), ("home",)), LOOK, 0)
SETS = (
    ((0, 0, 0, 20),),
    ((1, 0, 0, 18), (2, 0, 1, 18)),
    ((0, 0, 0, 16), (0, 0, 1, 15)),
    ((0, 0, 0, 19), (0, 0, 1, 18)),
)
NEEDS = (
    ((0, 0, 0, 0),),
    ((0, 0, 0, 0), (1, 0, 0, 2), (2, 0, 1, 3)),
    ((0, 0, 0, 0), (0, 0, 1, 0)),
    ((0, 0, 0, 0), (0, 0, 1, 0)),
)
PAPER = (SETS, NEEDS)


def paper_again(land, winds, made, since, thing):
    """Whether a paper of the right kinds is one, each condition told a second time."""
    sets, needs = thing
    x, y, step, charge = made[1]
    last = {None: 0, "look": 1, "bring": 2}.get(made[3] and made[3][0])
    last = made[3][2] if last is None else last
    beats = range(since, land.day)
    if len(sets) != len(beats) + 1 or len(needs) != len(beats) + 1:
        return False
    for layer in sets + needs:
        places = [state[:3] for state in layer]
        if places != sorted(set(places)):
            return False
        for u, v, at, much in layer:
            if u not in range(land.wide) or v not in range(land.high) or at not in range(last + 1) or much < 0:
                return False
    if hurt_again(land, x, y, since, made[0][1]) is not None or not is_kept((x, y, step, charge), sets[0]):
        return False
    if not all(is_kept(state, needs[at]) for at, layer in enumerate(sets) for state in layer):
        return False
    if any(state[:2] not in squares_of(land.pads[made[4]]) for state in needs[-1]):
        return False
    for at, beat in enumerate(beats):
        row = made[2][at] if at < len(made[2]) else ("home",)
        if not follows(land, winds, made, row, beat, sets[at], sets[at + 1]):
            return False
        if not follows(land, winds, made, ("home",), beat, needs[at], needs[at + 1]):
            return False
    return True


def is_kept(state, layer):
    return any(state[:3] == other[:3] and other[3] <= state[3] for other in layer)


def follows(land, winds, made, row, beat, layer, behind):
    for state in layer:
        for wind in winds_again(winds, state[0], state[1], beat):
            come, word = beat_again(land, made, row, beat, state, wind)
            if word is not None or not is_kept(come, behind):
                return False
    return True


class LetHolds(unittest.TestCase):
    def held(self, thing, land=LAND, winds=WINDS, made=MADE, since=0):
        told = unchanged(self, let_holds, land, winds, made, since, thing)
        self.assertIn(repr(told), ("True", "False"))
        return told

    def spoilt(self, path, part):
        """Checks that the paper with another part at the path is none."""
        self.assertIs(False, self.held(replaced(PAPER, path, part)), (path, part))

    def test_a_paper_by_another_hand(self):
        self.assertIs(True, self.held(PAPER))
        self.assertEqual("let", judged(LAND, WINDS, MADE, 0)[0])

    def test_what_is_told(self):
        self.assertIs(True, self.held(judged(LAND, WINDS, MADE, 0)[1]))

    def test_less_charge_than_needed(self):
        # The sets may owe: what is claimed is less charge than there is, as long as it brings home.
        sets = (
            ((0, 0, 0, 5),), ((1, 0, 0, 2), (2, 0, 1, 3)), ((0, 0, 0, 0), (0, 0, 1, 0)), ((0, 0, 0, 0), (0, 0, 1, 3)),
        )
        self.assertIs(True, self.held((sets, NEEDS)))
        self.assertIs(False, self.held((replaced(sets, (0, 0, 3), 4), NEEDS)))
        self.assertIs(False, self.held((replaced(sets, (1, 1, 3), 2), NEEDS)))

    def test_more_charge_needed_than_is(self):
        needs = (((0, 0, 0, 20),), ((0, 0, 0, 23), (1, 0, 0, 18), (2, 0, 1, 18)), NEEDS[2], NEEDS[3])
        self.assertIs(True, self.held((SETS, needs)))
        self.spoilt((1, 1, 2, 3), 19)
        self.spoilt((1, 0, 0, 3), 21)

    def test_more_squares_than_needed(self):
        more = replaced(PAPER, (0, 3), ((0, 0, 0, 19), (0, 0, 1, 18), (0, 1, 1, 7)))
        self.assertIs(False, self.held(more))
        self.assertIs(True, self.held(replaced(more, (1, 3), ((0, 0, 0, 0), (0, 0, 1, 0), (0, 1, 1, 7)))))
        self.assertIs(False, self.held(replaced(more, (1, 3), ((0, 0, 0, 0), (0, 0, 1, 0), (0, 1, 1, 8)))))
        all_needs = tuple(
            tuple((x, y, step, 40) for x in (0,) for y in (0, 1) for step in (0, 1)) for beat in range(4)
        )
        needs = tuple(tuple(sorted({state[:3]: state for state in extra + layer}.values()))
                      for layer, extra in zip(NEEDS, all_needs))
        # Standing behind forty gives no more than full, which is less than forty.
        self.assertIs(False, self.held((SETS, needs)))
        calm = tuple(tuple((*state[:3], min(state[3], 30)) for state in layer) for layer in needs)
        self.assertIs(True, self.held((SETS, calm)))

    def test_charges_however_great(self):
        needs = replaced(NEEDS, (1,), NEEDS[1] + ((4, 0, 0, 10 ** 39),))
        needs = replaced(needs, (2,), NEEDS[2] + ((2, 0, 0, 10 ** 38),))
        self.assertIs(True, self.held((SETS, needs)))
        self.assertIs(False, self.held((SETS, replaced(needs, (2, 2, 3), 10 ** 39))))
        self.assertIs(True, self.held((SETS, replaced(NEEDS, (0, 0, 3), 20))))

    def test_a_beat_too_few_or_too_many(self):
        for part in (0, 1):
            self.spoilt((part,), PAPER[part][:-1])
            self.spoilt((part,), PAPER[part][1:])
            self.spoilt((part,), PAPER[part] + PAPER[part][-1:])
            self.spoilt((part,), ())
        self.assertIs(False, self.held((SETS[:-1], NEEDS[:-1])))
        self.assertIs(False, self.held((SETS + SETS[-1:], NEEDS + NEEDS[-1:])))
        self.assertIs(False, self.held(PAPER, since=1))
        self.assertIs(False, self.held((SETS,)))
        self.assertIs(False, self.held((SETS, NEEDS, NEEDS)))

    def test_tuples_that_do_not_rise(self):
        self.spoilt((0, 1), SETS[1][::-1])
        self.spoilt((1, 1), NEEDS[1][::-1])
        self.spoilt((1, 3), NEEDS[3][::-1])
        self.spoilt((0, 0), SETS[0] * 2)

    def test_places_twice(self):
        self.spoilt((0, 0), ((0, 0, 0, 19), (0, 0, 0, 20)))
        self.spoilt((0, 3), ((0, 0, 0, 18), (0, 0, 0, 19), (0, 0, 1, 18)))
        self.spoilt((1, 3), ((0, 0, 0, 0), (0, 0, 0, 1), (0, 0, 1, 0)))
        self.spoilt((1, 1), ((0, 0, 0, 0), (1, 0, 0, 2), (2, 0, 1, 3), (2, 0, 1, 4)))

    def test_off_the_land(self):
        # From beyond the land's ends, too, the row home would lead to a square of the home pad.
        land = Land(6, 2, day=3, pads=((0, 0, 5, 1, 2),))
        made = (FLYER, (1, 0, 0, 20), (("aim", 2, 0),), None, 0)
        every = tuple((x, y, 0, 0) for x in range(6) for y in range(2))
        paper = ((((1, 0, 0, 20),), every), (((1, 0, 0, 20),), every))
        self.assertIs(True, self.held(paper, land, (), made, 2))
        for place, within in (((0, 0), True), ((4, 1), True), ((-1, 0), False), ((6, 0), False), ((0, -1), False),
                              ((0, 2), False), ((10 ** 39, 0), False), ((0, -(10 ** 39)), False)):
            first = tuple(sorted(((1, 0, 0, 20), (*place, 0, 20))))
            wider = replaced(paper, (1, 0), first)
            self.assertIs(within, self.held(wider, land, (), made, 2), place)
            self.assertIs(within, self.held(replaced(wider, (0, 0), first), land, (), made, 2), place)

    def test_steps_and_charges_out_of_bounds(self):
        self.assertIs(True, self.held(replaced(PAPER, (1, 3), NEEDS[3] + ((0, 1, 0, 0), (0, 1, 1, 0)))))
        for state in ((0, 1, -1, 0), (0, 1, 2, 0), (0, 1, 10 ** 39, 0), (0, 1, 0, -1), (0, 1, 1, -(10 ** 39))):
            self.spoilt((1, 3), NEEDS[3] + (state,))
        # Not even where less would be claimed.
        self.spoilt((1, 0, 0, 3), -1)

    def test_steps_by_the_task(self):
        made = (FLYER, (0, 0, 0, 20), (), None, 0)
        calm = ((((0, 0, 0, 20),),) + (((0, 0, 0, 20),),) * 3,) * 2
        self.assertIs(True, self.held(calm, made=made))
        for task, last in ((None, 0), (LOOK, 1), (("bring", (5, 0, 5, 0), (5, 1, 5, 1), 2, 0, 3), 2),
                           (("over", (5, 0, 5, 0), 7, 0, 3), 7)):
            made = (FLYER, (0, 0, 0, 20), (), task, 0)
            for step in range(9):
                needs = replaced(calm, (1, 3), calm[1][3] + ((0, 1, step, 0),))
                self.assertIs(step <= last, self.held(needs, made=made), (task, step))

    def test_the_start_in_the_first_of_sets(self):
        self.spoilt((0, 0), ())
        for start in ((1, 0, 0, 20), (0, 1, 0, 20), (0, 0, 1, 20), (0, 0, 0, 21)):
            made = (FLYER, start, *MADE[2:])
            self.assertIs(start == (0, 0, 0, 21), self.held(PAPER, made=made), start)
        self.assertIs(False, self.held(PAPER, made=(FLYER, (0, 0, 0, 19), *MADE[2:])))

    def test_a_start_that_hurts(self):
        for rooms in ({"barred": ((0, 0, 0, 0, 0, 0),)}, {"people": ((1, 1, 1, 1, 0, 0),)},
                      {"heights": ((9, 0, 0, 0, 0, 0), (0,) * 6)}):
            land = Land(6, 2, day=3, pads=LAND.pads, **rooms)
            made = ((2, 8, 30, 3), *MADE[1:])
            self.assertIs(False, self.held(PAPER, land=land, made=made), rooms)
        land = Land(6, 2, day=3, pads=LAND.pads, barred=((0, 0, 0, 0, 3, 3),))
        made = (FLYER, (0, 0, 0, 20), (), None, 0)
        paper = ((((0, 0, 0, 20),),), (((0, 0, 0, 20),),))
        self.assertIs(True, self.held(paper, made=made, since=3))
        self.assertIs(False, self.held(paper, land=land, made=made, since=3))

    def test_what_comes_is_in_the_next_of_sets(self):
        self.spoilt((0, 1), SETS[1][:1])
        self.spoilt((0, 1), SETS[1][1:])
        self.spoilt((0, 2), SETS[2][:1])
        self.spoilt((0, 3), SETS[3][1:])
        self.spoilt((0, 3), ())
        for at, place, much in ((1, 0, 18), (1, 1, 18), (2, 0, 16), (2, 1, 15), (3, 0, 19), (3, 1, 18)):
            self.assertIs(False, self.held(replaced(PAPER, (0, at, place, 3), much + 1)))
            # With less what comes behind must have less, too, but at day.
            self.assertIs(at == 3, self.held(replaced(PAPER, (0, at, place, 3), much - 1)))

    def test_nothing_of_sets_breaks(self):
        # Squares more of which one breaks by its row: nopad, out, empty, barred.
        more = replaced(PAPER, (1, 0), NEEDS[0] + ((0, 1, 0, 0),))
        more = replaced(more, (1, 1), ((0, 0, 0, 0), (0, 1, 0, 0), (1, 0, 0, 2), (1, 1, 0, 3), (2, 0, 1, 3), (2, 1, 0, 6)))
        more = replaced(more, (1, 2), ((0, 0, 0, 0), (0, 0, 1, 0), (0, 1, 0, 0)))
        more = replaced(more, (1, 3), ((0, 0, 0, 0), (0, 0, 1, 0), (0, 1, 0, 0)))
        self.assertIs(True, self.held(more))
        more = replaced(more, (0, 0), SETS[0] + ((0, 1, 0, 9),))
        more = replaced(more, (0, 1), ((1, 0, 0, 18), (1, 1, 0, 7), (2, 0, 1, 18), (2, 1, 0, 7)))
        self.assertIs(False, self.held(more))
        more = replaced(more, (0, 2), ((0, 0, 0, 3), (0, 0, 1, 15)))
        more = replaced(more, (0, 3), ((0, 0, 0, 6), (0, 0, 1, 18)))
        self.assertIs(True, self.held(more))
        land = Land(6, 2, day=3, pads=LAND.pads, barred=((2, 1, 2, 1, 1, 1),))
        self.assertIs(False, self.held(more, land=land))
        self.assertIs(True, self.held(PAPER, land=land))

    def test_a_row_that_breaks(self):
        for way, word in (((("go", 1, 0), ("stand",)), "nopad"), ((("go", 1, 0), ("go", 0, -1)), "out")):
            made = (FLYER, MADE[1], way, LOOK, 0)
            self.assertIs(False, self.held(PAPER, made=made), word)
            self.assertEqual("breaks", judged(LAND, WINDS, made, 0)[0])

    def test_sets_within_needs(self):
        self.spoilt((1, 1), NEEDS[1][:2])
        self.spoilt((1, 2), NEEDS[2][:1])
        self.spoilt((1, 0), ())
        self.spoilt((1, 3), ())
        # Needs at day that no beat ahead asks for.
        made = (FLYER, (0, 0, 0, 20), (), None, 0)
        for needed in range(18, 23):
            for claimed in range(18, 23):
                paper = ((((0, 0, 0, claimed),),), (((0, 0, 0, needed),),))
                self.assertIs(needed <= claimed <= 20, self.held(paper, made=made, since=3), (needed, claimed))

    def test_needs_that_break_or_do_not_come_to_needs(self):
        # One square more in needs, from which the row home breaks, or leads where needs have nothing.
        self.assertIs(True, self.held(replaced(PAPER, (1, 1), ((0, 0, 0, 0), (1, 0, 0, 2), (1, 1, 0, 3), (2, 0, 1, 3)))))
        self.spoilt((1, 1), ((0, 0, 0, 0), (1, 0, 0, 2), (1, 1, 0, 2), (2, 0, 1, 3)))
        self.spoilt((1, 1), ((0, 0, 0, 0), (1, 0, 0, 2), (2, 0, 1, 3), (3, 0, 0, 9)))
        self.spoilt((1, 2), ((0, 0, 0, 1), (0, 0, 1, 0)))
        self.spoilt((1, 1, 1, 3), 1)
        self.spoilt((1, 1, 2, 3), 2)
        self.spoilt((1, 3, 0, 3), 4)
        self.assertIs(True, self.held(replaced(PAPER, (1, 3, 0, 3), 3)))

    def test_needs_are_flown_by_the_row_home_not_by_the_way(self):
        # By its way it goes out at since, but needs stand at home.
        self.assertIs(False, self.held((SETS, SETS)))
        self.assertIs(False, self.held((NEEDS, NEEDS)))

    def test_the_last_squares_are_the_home_pads(self):
        self.spoilt((1, 3), NEEDS[3] + ((1, 0, 0, 0),))
        self.spoilt((1, 3), NEEDS[3] + ((5, 0, 0, 0),))
        self.assertIs(True, self.held(replaced(PAPER, (1, 3), NEEDS[3] + ((0, 1, 0, 0),))))
        late = (FLYER, (1, 0, 0, 20), (), None, 0)
        paper = ((((1, 0, 0, 20),),), (((1, 0, 0, 20),),))
        self.assertIs(False, self.held(paper, made=late, since=3))

    def test_of_anything(self):
        for thing in ANYTHING + (deep(30), (deep(29), deep(28)), PAPER + PAPER, ("let", PAPER), list(PAPER)):
            self.assertIs(False, self.held(thing), thing)
        for thing in ANYTHING:
            self.assertIs(False, self.held((SETS, thing)))
            self.assertIs(False, self.held((thing, NEEDS)))
            self.assertIs(False, self.held(((thing,) * 4, NEEDS)))
            self.assertIs(False, self.held((SETS, NEEDS[:3] + ((thing,),))))

    def test_each_part_spoilt_alone(self):
        free = [(part, at) for part in (0, 1) for at in range(4)]
        for wrong in spoiled(PAPER, free):
            self.assertIs(False, let_holds(LAND, WINDS, MADE, 0, wrong), wrong)

    def test_truths_for_numbers_and_lists_for_tuples(self):
        # Truths that equal the numbers they stand for, in parts of which all else would be so.
        self.spoilt((0, 0, 0, 0), False)
        self.spoilt((0, 1, 0, 0), True)
        self.spoilt((0, 1, 1, 2), True)
        self.spoilt((1, 0, 0, 3), False)
        self.spoilt((1, 3, 0, 1), False)
        for path in ((), (0,), (1,), (0, 1), (1, 3), (0, 1, 0), (1, 3, 0)):
            part = PAPER
            for at in path:
                part = part[at]
            self.spoilt(path, list(part))

    def test_sixty_thousand_parts(self):
        many = tuple((x, y, step, 0) for x in range(12) for y in range(12) for step in range(4))
        land = Land(12, 12, day=9, pads=((0, 0, 11, 11, 1),))
        made = ((2, 9, 30, 3), (0, 0, 0, 20), (("stand",),) * 9, ("over", (0, 0, 0, 0), 9, 0, 0), 0)
        paper = ((many,) * 10, (many,) * 10)
        self.assertIs(True, self.held(paper, land=land, winds=(), made=made))
        self.assertIs(False, self.held(replaced(paper, (1, 9), many[:-4]), land=land, winds=(), made=made))

    def test_by_names(self):
        self.assertIs(True, let_holds(thing=PAPER, since=0, flight=MADE, winds=WINDS, land=LAND))

    def test_papers_bent_by_chance(self):
        told = {True: 0, False: 0}
        for number in range(1200):
            rand = random.Random(number)
            land = a_fair_land(rand, rand.randint(2, 4))
            winds, made = fair_winds(rand, land), a_fair_flight(rand, land)
            since = rand.choice((0, 0, 1, land.day))
            word, *paper = judged(land, winds, made, since)
            if word != "let":
                continue
            for again in range(6):
                thing = bend(rand, paper[0])
                wanted = paper_again(land, winds, made, since, thing)
                self.assertIs(wanted, let_holds(land, winds, made, since, thing), (number, thing))
                told[wanted] += 1
        self.assertGreater(min(told.values()), 100)


def bend(rand, paper):
    """The paper with one of its layers bent by chance."""
    part = rand.randrange(2)
    at = rand.randrange(len(paper[part]))
    layer = paper[part][at]
    sort = rand.randrange(4)
    if sort == 0 and layer:
        gone = rand.randrange(len(layer))
        return replaced(paper, (part, at), layer[:gone] + layer[gone + 1:])
    if sort == 1:
        more = (rand.randrange(3), rand.randrange(3), rand.randrange(2), rand.randrange(9))
        return replaced(paper, (part, at), tuple(sorted(layer + (more,))))
    if layer:
        place = rand.randrange(len(layer))
        much = layer[place][3] + rand.choice((-2, -1, -1, 1))
        return replaced(paper, (part, at, place, 3), much)
    return paper


class BreakHolds(unittest.TestCase):
    LATE = (FLYER, (5, 1, 0, 30), (("go", 0, 0),), None, 0)

    def held(self, thing, land=LAND, winds=WINDS, made=LATE, since=0):
        told = unchanged(self, break_holds, land, winds, made, since, thing)
        self.assertIn(repr(told), ("True", "False"))
        return told

    def test_turn_and_run_as_told(self):
        word, turn, run = judged(LAND, WINDS, self.LATE, 0)
        self.assertEqual("breaks", word)
        self.assertIs(True, self.held((turn, run)))

    def test_whatever_turn_and_run_have_a_word(self):
        # Home is come to in three beats, but not in two.
        for turn, run, wanted in (
            (0, ((0, 0), (0, 0), (0, 0)), False), (0, ((1, 0), (0, 0), (0, 0)), False), (0, ((1, 0), (0, 0)), False),
            (1, ((0, 0), (0, 0), (0, 0)), True), (2, ((0, 0), (0, 0), (0, 0)), True),
            (3, ((0, 0), (0, 0), (0, 0)), True), (3, ((1, 0),), True), (1, ((1, 0),), True), (1, ((0, 0),), False),
            (1, (), False),
        ):
            self.assertIs(wanted, self.held((turn, run)), (turn, run))

    def test_a_turn_out_of_since_to_day(self):
        run = ((0, 0), (0, 0))
        made = (FLYER, (5, 1, 0, 30), (("go", 0, 0),), None, 0)
        for turn in range(-3, 9):
            self.assertIs(turn in (1, 2, 3), self.held((turn, run), winds=(), made=made, since=1), turn)
        self.assertIs(False, self.held((10 ** 39, run), winds=(), since=1))
        self.assertIs(False, self.held((-(10 ** 39), run), winds=(), since=1))

    def test_no_whole_number_for_a_turn(self):
        run = ((0, 0), (0, 0), (0, 0))
        self.assertIs(True, self.held((1, run)))
        for turn in (None, True, False, "1", (1,), [1], {}, (), "", "day"):
            self.assertIs(False, self.held((turn, run)), turn)

    def test_runs_that_are_none(self):
        self.assertIs(True, self.held((3, ((0, 0),) * 3)))
        for run in ANYTHING + ([(0, 0)] * 3, ([0, 0],) * 3, ((0, 0),) * 4, ((0, 1),), ((0, 0), (1, 0), (0, 0)),
                               ((False, 0), (0, 0), (0, 0)), ((0, 0, 0),) * 3, (True, 1), deep(20)):
            self.assertIs(False, self.held((3, run)), run)

    def test_runs_that_go_on_behind_a_break(self):
        self.assertIs(True, self.held((3, ((1, 0),))))
        self.assertIs(False, self.held((3, ((1, 0), (0, 0)))))
        land = Land(6, 2, day=3, pads=LAND.pads, barred=((5, 1, 5, 1, 0, 0),))
        self.assertIs(True, self.held((0, ()), land=land))
        self.assertIs(False, self.held((0, ((0, 0),)), land=land))

    def test_of_anything(self):
        good = (3, ((0, 0),) * 3)
        self.assertIs(True, self.held(good))
        for thing in ANYTHING + (deep(30), ("breaks", *good), good + (None,), list(good), good[:1], good[1:], good[::-1]):
            self.assertIs(False, self.held(thing), thing)
        for wrong in spoiled(good, [(1,)]):
            self.assertIs(False, self.held(wrong), wrong)

    def test_by_names(self):
        self.assertIs(True, break_holds(thing=(3, ((0, 0),) * 3), since=0, flight=self.LATE, winds=WINDS, land=LAND))

    def test_against_all_runs(self):
        told = {True: 0, False: 0}
        for number in range(60):
            rand = random.Random(number)
            land = a_fair_land(rand, 3)
            winds, made = fair_winds(rand, land), a_fair_flight(rand, land)
            for turn in range(4):
                for run, states, word in runs_again(land, winds, made, 0, turn):
                    self.assertIs(word is not None, break_holds(land, winds, made, 0, (turn, run)))
                    told[word is not None] += 1
        self.assertGreater(min(told.values()), 100)
