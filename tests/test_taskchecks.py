import random
import unittest

from tests.helping import (
    ANYTHING, a_tasked_case, beat_again, bent, deep, replaced, runs_again, spoiled, unchanged, winds_again,
)
from windfleet.judging import judged
from windfleet.lands import Land
from windfleet.taskchecks import task_holds
from windfleet.tasking import tasked
from windfleet.tasks import last_step

LAND = Land(6, 2, day=3, pads=((0, 0, 0, 1, 2), (5, 0, 5, 1, 1)))
WINDS = (((0, 0, 5, 1, 0, 0), (0, 1, 0, 0)),)
FLYER = (2, 9, 50, 3)
WAY = (("go", 1, 0),)


def a_flight(task, way=WAY, start=(0, 0, 0, 50)):
    return FLYER, start, way, task, 0


# Blown by one wind alone it comes over (2, 0), by each over (1, 0) or (2, 0).
SURE = a_flight(("look", (1, 0, 2, 0), 1, 1))
NEVER = a_flight(("look", (3, 0, 5, 0), 1, 1))
PERHAPS = a_flight(("look", (2, 0, 2, 0), 1, 1))
SURE_PAPER = (((0, 0, 0),), ((1, 0, 1), (2, 0, 1)), ((0, 0, 1),), ((0, 0, 1),))
NEVER_PAPER = (((0, 0, 0),), ((1, 0, 0), (2, 0, 0)), ((0, 0, 0),), ((0, 0, 0),))
BOTH = (((1, 0), (0, 0), (0, 0)), ((0, 0), (0, 0), (0, 0)))


def paper_again(land, winds, made, since, word, paper):
    """Whether a paper of the right kinds is one of that word, each condition told a second time."""
    last = last_step(made[3])
    if len(paper) != land.day - since + 1 or made[1][:3] not in paper[0]:
        return False
    for layer in paper:
        if list(layer) != sorted(set(layer)):
            return False
        for x, y, step in layer:
            if x not in range(land.wide) or y not in range(land.high) or step not in range(last + 1):
                return False
    for at, layer in enumerate(paper[:-1]):
        row = made[2][at] if at < len(made[2]) else ("home",)
        for x, y, step in layer:
            for wind in winds_again(winds, x, y, since + at):
                come, word_of = beat_again(land, made, row, since + at, (x, y, step, 0), wind, owing=True)
                if word_of is not None or come[:3] not in paper[at + 1]:
                    return False
    if word == "sure":
        return {place[2] for place in paper[-1]} <= {last}
    return last not in {place[2] for layer in paper for place in layer}


class Asking(unittest.TestCase):
    def held(self, thing, made=SURE, land=LAND, winds=WINDS, since=0):
        told = unchanged(self, task_holds, land, winds, made, since, thing)
        self.assertIn(repr(told), ("True", "False"))
        return told


class Papers(Asking):
    def spoilt(self, path, part):
        self.assertIs(False, self.held(("sure", replaced(SURE_PAPER, path, part))), (path, part))
        never = replaced(NEVER_PAPER, path, part)
        self.assertIs(False, self.held(("never", never), NEVER), (path, part))

    def test_what_is_told(self):
        for word, made in (("sure", SURE), ("never", NEVER), ("perhaps", PERHAPS)):
            told = tasked(LAND, WINDS, made, 0)
            self.assertEqual(word, told[0])
            self.assertIs(True, self.held(told, made))

    def test_papers_by_another_hand(self):
        self.assertIs(True, self.held(("sure", SURE_PAPER)))
        self.assertIs(True, self.held(("never", NEVER_PAPER), NEVER))
        # More places than needed, as long as they lead on.
        more = (((0, 0, 0), (0, 0, 1), (0, 1, 1)), ((1, 0, 1), (1, 1, 1), (2, 0, 1), (2, 1, 1)), ((0, 0, 1),), ((0, 0, 1),))
        self.assertIs(True, self.held(("sure", more)))
        self.assertIs(False, self.held(("sure", replaced(more, (1,), more[1][:1] + more[1][2:]))))
        # At day alone each is at the last step.
        self.assertIs(True, self.held(("sure", replaced(SURE_PAPER, (3,), ((0, 0, 1), (4, 1, 1))))))
        self.assertIs(False, self.held(("sure", replaced(SURE_PAPER, (3,), ((0, 0, 1), (4, 1, 0))))))
        self.assertIs(True, self.held(("never", replaced(NEVER_PAPER, (3,), ((0, 0, 0), (4, 1, 0)))), NEVER))
        for at in range(4):
            wider = replaced(NEVER_PAPER, (at,), NEVER_PAPER[at] + ((5, 1, 1),))
            self.assertIs(False, self.held(("never", wider), NEVER), at)
        # Behind the first beats some may lag, if at day none does.
        self.assertIs(True, self.held(("sure", replaced(more, (0,), more[0][:2]))))

    def test_the_word_of_another_of_the_three(self):
        self.assertIs(False, self.held(("never", SURE_PAPER)))
        self.assertIs(False, self.held(("sure", NEVER_PAPER), NEVER))
        self.assertIs(False, self.held(("perhaps", SURE_PAPER)))
        for word in ("", "let", "Sure", "sure ", None, True, 0, ("sure",), ["sure"]):
            self.assertIs(False, self.held((word, SURE_PAPER)), word)
            self.assertIs(False, self.held((word, NEVER_PAPER), NEVER), word)
        for word in ("sure", "never"):
            self.assertIs(False, self.held((word, *BOTH), PERHAPS))
            self.assertIs(False, self.held((word, NEVER_PAPER), PERHAPS))

    def test_of_a_flight_without_a_task_none_is(self):
        calm = (((0, 0, 0),), ((1, 0, 0), (2, 0, 0)), ((0, 0, 0),), ((0, 0, 0),))
        made = a_flight(None)
        for thing in (("sure", calm), ("never", calm), ("perhaps", *BOTH), None, ()):
            self.assertIs(False, self.held(thing, made), thing)
        self.assertIs(False, self.held(("sure", (((0, 0, 0),),)), made, since=3))

    def test_a_beat_too_few_or_too_many(self):
        for word, paper, made in (("sure", SURE_PAPER, SURE), ("never", NEVER_PAPER, NEVER)):
            for thing in (paper[:-1], paper[1:], paper + paper[-1:], (), paper[:1]):
                self.assertIs(False, self.held((word, thing), made))
            self.assertIs(False, self.held((word, paper), made, since=1))

    def test_tuples_that_do_not_rise(self):
        self.assertIs(False, self.held(("sure", replaced(SURE_PAPER, (1,), SURE_PAPER[1][::-1]))))
        self.assertIs(False, self.held(("sure", replaced(SURE_PAPER, (3,), SURE_PAPER[3] * 2))))
        self.assertIs(False, self.held(("never", replaced(NEVER_PAPER, (0,), NEVER_PAPER[0] * 2)), NEVER))

    def test_off_the_land_and_steps_out_of_bounds(self):
        for place in ((-1, 0), (6, 0), (0, -1), (0, 2), (10 ** 39, 0), (0, -(10 ** 39))):
            self.assertIs(False, self.held(("sure", replaced(SURE_PAPER, (3,), tuple(sorted(((0, 0, 1), (*place, 1))))))))
        for step in (-1, 2, 10 ** 39):
            wider = replaced(NEVER_PAPER, (3,), ((0, 0, 0), (0, 1, step)))
            self.assertIs(False, self.held(("never", wider), NEVER), step)
        self.assertIs(True, self.held(("never", replaced(NEVER_PAPER, (3,), ((0, 0, 0), (0, 1, 0)))), NEVER))

    def test_the_start_in_the_first(self):
        for start in ((1, 0, 0, 50), (0, 1, 0, 50), (0, 0, 1, 50)):
            self.assertIs(False, self.held(("sure", SURE_PAPER), a_flight(SURE[3], start=start)), start)
        self.assertIs(True, self.held(("sure", SURE_PAPER), a_flight(SURE[3], start=(0, 0, 0, 0))))
        self.spoilt((0,), ())

    def test_what_comes_is_in_the_next(self):
        self.spoilt((1,), ((1, 0, 1),))
        self.spoilt((1,), ((2, 0, 1),))
        self.spoilt((1,), ((1, 0, 0),))
        self.spoilt((2,), ())
        self.spoilt((3,), ())
        self.spoilt((3,), ((0, 1, 1),))
        self.spoilt((3,), ((0, 1, 0),))

    def test_nothing_breaks_but_by_charge(self):
        for word, paper, made in (("sure", SURE_PAPER, SURE), ("never", NEVER_PAPER, NEVER)):
            self.assertIs(True, self.held((word, paper), (made[0], (0, 0, 0, 0), *made[2:])))
            self.assertIs(False, self.held((word, paper), (*made[:2], WAY + (("stand",),), *made[3:])))
            for barred in ((1, 0, 1, 0, 1, 1), (2, 0, 2, 0, 1, 1), (0, 0, 0, 0, 3, 3)):
                land = Land(6, 2, day=3, pads=LAND.pads, barred=(barred,))
                self.assertIs(False, self.held((word, paper), made, land=land))

    def test_since_at_day(self):
        done = a_flight(("look", (4, 0, 4, 0), 0, 0), start=(0, 0, 1, 9))
        self.assertIs(True, self.held(("sure", (((0, 0, 1),),)), done, since=3))
        self.assertIs(False, self.held(("never", (((0, 0, 1),),)), done, since=3))
        self.assertIs(True, self.held(("never", (((0, 0, 0),),)), SURE, since=3))
        self.assertIs(False, self.held(("sure", (((0, 0, 0),),)), SURE, since=3))
        self.assertIs(False, self.held(("perhaps", (), ()), SURE, since=3))

    def test_of_anything(self):
        for thing in ANYTHING + (deep(30), SURE_PAPER, list(("sure", SURE_PAPER)), ("sure", SURE_PAPER, None), ("sure",)):
            self.assertIs(False, self.held(thing), thing)
        for thing in ANYTHING:
            self.assertIs(False, self.held(("sure", thing)))
            self.assertIs(False, self.held(("never", thing), NEVER))
            self.assertIs(False, self.held(("sure", SURE_PAPER[:3] + (SURE_PAPER[3] + (thing,),))))
        free = [(1, at) for at in range(4)]
        for wrong in spoiled(("sure", SURE_PAPER), free):
            self.assertIs(False, self.held(wrong), wrong)
        for wrong in spoiled(("never", NEVER_PAPER), free):
            self.assertIs(False, self.held(wrong, NEVER), wrong)

    def test_truths_for_numbers_and_lists_for_tuples(self):
        for path, part in (((0, 0, 0), False), ((1, 0, 0), True), ((1, 0, 2), True), ((3, 0, 2), True), ((3, 0, 1), False),
                           ((1,), list(SURE_PAPER[1])), ((3, 0), [0, 0, 1]), ((), list(SURE_PAPER))):
            self.assertIs(False, self.held(("sure", replaced(SURE_PAPER, path, part))), path)

    def test_by_names(self):
        self.assertIs(True, task_holds(thing=("sure", SURE_PAPER), since=0, flight=SURE, winds=WINDS, land=LAND))

    def test_papers_bent_by_chance(self):
        told = {True: 0, False: 0}
        for number in range(1500):
            rand = random.Random(number)
            case = a_tasked_case(rand, judged)
            if case is None:
                continue
            land, winds, made, since = case
            word, *papers = tasked(land, winds, made, since)
            if word == "perhaps":
                continue
            for again in range(5):
                thing = bent(rand, papers[0], (rand.randrange(5), rand.randrange(3), rand.randrange(3)))
                asked = rand.choice((word, word, "sure", "never"))
                wanted = paper_again(land, winds, made, since, asked, thing)
                self.assertIs(wanted, task_holds(land, winds, made, since, (asked, thing)), (number, thing))
                told[wanted] += 1
        self.assertGreater(min(told.values()), 200)


class Perhaps(Asking):
    def test_two_runs_to_day(self):
        self.assertIs(True, self.held(("perhaps", *BOTH), PERHAPS))
        self.assertIs(False, self.held(("perhaps", *BOTH[::-1]), PERHAPS))
        self.assertIs(False, self.held(("perhaps", BOTH[0], BOTH[0]), PERHAPS))
        self.assertIs(False, self.held(("perhaps", BOTH[1], BOTH[1]), PERHAPS))
        for made in (SURE, NEVER):
            self.assertIs(False, self.held(("perhaps", *BOTH), made))

    def test_runs_that_end_ahead_of_day(self):
        for length in range(3):
            self.assertIs(False, self.held(("perhaps", BOTH[0][:length], BOTH[1]), PERHAPS))
            self.assertIs(False, self.held(("perhaps", BOTH[0], BOTH[1][:length]), PERHAPS))
            self.assertIs(False, self.held(("perhaps", BOTH[0][:length], BOTH[1][:length]), PERHAPS))

    def test_runs_that_break(self):
        for place in ((2, 0), (1, 0)):
            land = Land(6, 2, day=3, pads=LAND.pads, barred=((*place, *place, 1, 1),))
            self.assertIs(False, self.held(("perhaps", *BOTH), PERHAPS, land=land))
            self.assertIs(False, self.held(("perhaps", BOTH[0][:1], BOTH[1]), PERHAPS, land=land))
            self.assertIs(False, self.held(("perhaps", BOTH[0], BOTH[1][:1]), PERHAPS, land=land))
        # Out by 2, back by 3, or by 2 from nearer.
        self.assertIs(True, self.held(("perhaps", *BOTH), a_flight(PERHAPS[3], start=(0, 0, 0, 5))))
        self.assertIs(False, self.held(("perhaps", *BOTH), a_flight(PERHAPS[3], start=(0, 0, 0, 4))))

    def test_a_break_at_the_last_beat(self):
        # What breaks at its last wind has a state less, and is no run to day that doesn't break.
        land = Land(6, 2, day=1, pads=LAND.pads)
        made = a_flight(("look", (2, 0, 2, 0), 1, 1))
        self.assertIs(True, self.held(("perhaps", ((1, 0),), ((0, 0),)), made, land=land))
        for square in ((1, 0), (2, 0)):
            land = Land(6, 2, day=1, pads=LAND.pads, barred=((*square, *square, 1, 1),))
            self.assertIs(False, self.held(("perhaps", ((1, 0),), ((0, 0),)), made, land=land))

    def test_late_is_no_break(self):
        made = a_flight(("look", (2, 0, 2, 0), 1, 1), (("go", 1, 0), ("go", 0, 0), ("go", 0, 0)))
        self.assertIs(True, self.held(("perhaps", *BOTH), made))

    def test_without_a_turn(self):
        # Turned home at since it would stand, and be over nothing.
        made = a_flight(("look", (1, 0, 2, 0), 1, 1))
        self.assertIs(False, self.held(("perhaps", *BOTH), made))

    def test_of_anything(self):
        good = ("perhaps", *BOTH)
        for thing in (good[:2], good + (None,), list(good), ("perhaps",), ("perhaps", BOTH), BOTH, (None, *BOTH), good[1:]):
            self.assertIs(False, self.held(thing, PERHAPS), thing)
        for thing in ANYTHING:
            self.assertIs(False, self.held(("perhaps", thing, BOTH[1]), PERHAPS))
            self.assertIs(False, self.held(("perhaps", BOTH[0], thing), PERHAPS))
        for wrong in spoiled(good):
            self.assertIs(False, self.held(wrong, PERHAPS), wrong)

    def test_against_all_runs(self):
        told = {True: 0, False: 0}
        for number in range(500):
            case = a_tasked_case(random.Random(number), judged)
            if case is None:
                continue
            land, winds, made, since = case
            last, length = last_step(made[3]), land.day - since
            runs = list(runs_again(land, winds, made, since))[:40]
            for run, states, word in runs:
                for other, beyond, broken in runs:
                    ends = states[-1][2] == last and beyond[-1][2] != last
                    wanted = len(run) == len(other) == length and ends and {word, broken} <= {None, "late"}
                    self.assertIs(wanted, task_holds(land, winds, made, since, ("perhaps", run, other)))
                    told[wanted] += 1
        self.assertGreater(told[True], 5)
