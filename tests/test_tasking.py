import random
import unittest

from tests.helping import a_tasked_case, runs_again, told_so, unchanged
from windfleet.judging import judged
from windfleet.lands import Land
from windfleet.runs import walked
from windfleet.tasking import tasked
from windfleet.tasks import last_step

LAND = Land(6, 2, day=4, pads=((0, 0, 0, 1, 2), (5, 0, 5, 1, 1)))
WINDS = (((0, 0, 5, 1, 0, 0), (0, 1, 0, 0)),)
FLYER = (2, 9, 50, 3)


def a_flight(task, *way, x=0, y=0, step=0):
    return FLYER, (x, y, step, 50), way, task, 0


def is_task_paper(land, winds, made, since, word, paper):
    """Whether a paper as told keeps what comes of every run, told a second time."""
    last = last_step(made[3])
    if len(paper) != land.day - since + 1 or any(list(layer) != sorted(set(layer)) for layer in paper):
        return False
    for run, states, broken in runs_again(land, winds, made, since):
        if states[-1][:3] not in paper[len(run)]:
            return False
    steps = {step for x, y, step in paper[-1]} if word == "sure" else {step for layer in paper for x, y, step in layer}
    return steps == {last} if word == "sure" else last not in steps


class Asking(unittest.TestCase):
    def told(self, word, made, since=0, land=LAND, winds=WINDS):
        """Checks that just this word is told, with a paper or runs that are so."""
        self.assertEqual("let", judged(land, winds, made, since)[0])
        told = unchanged(self, tasked, land, winds, made, since)
        self.assertIsInstance(told, tuple)
        self.assertEqual(word, told[0])
        if word == "perhaps":
            self.assertEqual(3, len(told))
            ends = [self.end_of(land, winds, made, since, run) for run in told[1:]]
            self.assertEqual([True, False], [end == last_step(made[3]) for end in ends])
        else:
            self.assertEqual(2, len(told))
            self.assertTrue(is_task_paper(land, winds, made, since, word, told[1]))
        return told[1:]

    def end_of(self, land, winds, made, since, run):
        """The step at the end of a run to day that doesn't break."""
        self.assertEqual(land.day - since, len(run))
        states, word = walked(land, winds, made, since, run)
        self.assertIn(word, (None, "late"))
        return states[-1][2]


class Told(Asking):
    def test_look(self):
        self.told("sure", a_flight(("look", (1, 0, 2, 0), 1, 1), ("go", 1, 0)))
        self.told("never", a_flight(("look", (3, 0, 4, 1), 0, 4), ("go", 1, 0)))
        run, other = self.told("perhaps", a_flight(("look", (2, 0, 2, 0), 1, 1), ("go", 1, 0)))
        self.assertEqual([(1, 0), (0, 0)], [run[0], other[0]])

    def test_bring(self):
        way = (("go", 1, 0), ("home",))
        self.told("sure", a_flight(("bring", (1, 0, 2, 0), (0, 0, 0, 1), 3, 0, 4), *way))
        self.told("never", a_flight(("bring", (4, 0, 4, 0), (0, 0, 0, 1), 3, 0, 4), *way))
        self.told("never", a_flight(("bring", (1, 0, 2, 0), (0, 0, 0, 1), 3, 0, 1), *way))
        run, other = self.told("perhaps", a_flight(("bring", (1, 0, 1, 0), (0, 0, 0, 1), 3, 0, 4), *way))
        self.assertEqual([(0, 0), (1, 0)], [run[0], other[0]])

    def test_brought_half_is_not_done(self):
        self.told("never", a_flight(("bring", (1, 0, 2, 0), (4, 0, 4, 0), 3, 0, 4), ("go", 1, 0)))

    def test_over(self):
        way = (("go", 1, 0), ("go", 0, 0))
        self.told("sure", a_flight(("over", (1, 0, 2, 0), 2, 1, 2), *way))
        self.told("never", a_flight(("over", (1, 0, 2, 0), 3, 1, 2), *way))
        self.told("perhaps", a_flight(("over", (2, 0, 2, 0), 2, 0, 4), *way))

    def test_over_that_is_left_again_ahead_of_being_done(self):
        way = (("go", 1, 0), ("go", 0, 1), ("go", 0, -1))
        self.told("never", a_flight(("over", (1, 0, 2, 0), 2, 0, 4), *way))

    def test_done_at_day_itself(self):
        self.told("sure", a_flight(("look", (0, 0, 0, 1), 4, 4), ("go", 1, 0)))
        self.told("never", a_flight(("look", (0, 1, 0, 1), 4, 4)), winds=())
        self.told("sure", a_flight(("over", (0, 0, 0, 1), 2, 3, 4), ("go", 1, 0)))
        # By one wind alone it comes home so late that two beats over it aren't left.
        winds = (((0, 0, 5, 1, 0, 0), (0, 2, 0, 0)),)
        self.told("perhaps", a_flight(("over", (0, 0, 0, 1), 2, 3, 4), ("go", 1, 0), ("go", 0, 0)), winds=winds)

    def test_done_already_at_since(self):
        self.told("sure", a_flight(("look", (4, 0, 4, 0), 0, 0), step=1))
        self.told("sure", a_flight(("bring", (4, 0, 4, 0), (4, 0, 4, 0), 9, 0, 0), step=2))
        self.told("sure", a_flight(("over", (4, 0, 4, 0), 3, 0, 0), step=3))

    def test_at_since_nothing_becomes(self):
        self.told("never", a_flight(("look", (0, 0, 0, 0), 0, 0)))
        self.told("sure", a_flight(("look", (0, 0, 0, 0), 0, 1)))

    def test_since_at_day(self):
        told_so(self, "sure", ((((0, 0, 1),),),), self.told("sure", a_flight(("look", (4, 0, 4, 0), 0, 0), step=1), 4))
        told_so(self, "never", ((((0, 0, 0),),),), self.told("never", a_flight(("look", (0, 0, 0, 0), 0, 4)), 4))

    def test_by_names(self):
        made = a_flight(("look", (0, 0, 0, 0), 0, 4))
        self.assertEqual(("never", (((0, 0, 0),),)), tasked(since=4, flight=made, winds=(), land=LAND))


class OneByOne(Asking):
    def test_against_all_runs(self):
        told = {}
        for number in range(1800):
            case = a_tasked_case(random.Random(number), judged)
            if case is None:
                continue
            land, winds, made, since = case
            ends = [states[-1][2] == last_step(made[3]) for run, states, word in runs_again(land, winds, made, since)
                    if len(run) == land.day - since]
            word = "sure" if all(ends) else "perhaps" if any(ends) else "never"
            self.told(word, made, since, land, winds)
            told[made[3][0], word] = told.get((made[3][0], word), 0) + 1
        self.assertEqual(9, len(told))

    def test_the_greatest_land_and_day_with_nine_winds(self):
        land = Land(12, 12, day=24, pads=((0, 0, 11, 11, 4),))
        winds = (((0, 0, 11, 11, 0, 24), (-1, 1, -1, 1)),)
        way = (("go", 0, 0),) * 5 + ((("aim", 5, 5),) * 4 + (("go", 0, 0),) * 4) * 2
        for task, word in ((("over", (0, 0, 5, 11), 9, 0, 24), "perhaps"), (("over", (0, 0, 11, 11), 9, 0, 24), "sure"),
                           (("look", (11, 11, 11, 11), 0, 24), "never"), (("look", (10, 10, 10, 10), 0, 24), "perhaps")):
            made = ((2, 9, 99, 9), (5, 5, 0, 99), way, task, 0)
            told = tasked(land, winds, made, 0)
            self.assertEqual(word, told[0])
            if word == "perhaps":
                ends = [self.end_of(land, winds, made, 0, run) == last_step(task) for run in told[1:]]
                self.assertEqual([True, False], ends)
