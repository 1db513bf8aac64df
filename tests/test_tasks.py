import unittest

from tests.helping import ANYTHING, deep, replaced, spoiled, told_so, unchanged
from windfleet.lands import Land
from windfleet.tasks import is_task, last_step, load_of, step_by

LAND = Land(4, 3, day=6)
LOOK = ("look", (1, 0, 2, 1), 2, 4)
BRING = ("bring", (1, 0, 2, 1), (2, 1, 3, 2), 5, 2, 4)
OVER = ("over", (1, 0, 2, 1), 3, 2, 4)
TASKS = (LOOK, BRING, OVER)


class IsTask(unittest.TestCase):
    def asked(self, thing):
        return unchanged(self, is_task, LAND, thing)

    def test_each_sort(self):
        for task in TASKS:
            self.assertIs(True, self.asked(task))

    def test_none_is_none(self):
        self.assertIs(False, self.asked(None))

    def test_boxes_are_the_lands(self):
        boxes = (((0, 0, 3, 2), True), ((3, 2, 3, 2), True), ((0, 0, 4, 2), False), ((0, 0, 3, 3), False),
                 ((-1, 0, 3, 2), False), ((0, -1, 3, 2), False), ((2, 0, 1, 2), False), ((0, 2, 3, 1), False))
        for box, right in boxes:
            for task in TASKS:
                self.assertIs(right, self.asked(replaced(task, (1,), box)), (task, box))
            self.assertIs(right, self.asked(replaced(BRING, (2,), box)), box)

    def test_a_room_or_a_pad_is_no_box(self):
        for task in TASKS:
            self.assertIs(False, self.asked(replaced(task, (1,), (0, 0, 1, 1, 0, 1))))
            self.assertIs(False, self.asked(replaced(task, (1,), (0, 0, 1, 1, 1))))

    def test_beats(self):
        for first in range(-2, 9):
            for last in range(-2, 9):
                for task in TASKS:
                    self.assertIs(0 <= first <= last <= 6, self.asked(task[:-2] + (first, last)))

    def test_weight_and_many(self):
        for number in (*range(-2, 12), 10 ** 39, -(10 ** 39)):
            self.assertIs(0 <= number <= 9, self.asked(replaced(BRING, (3,), number)))
            self.assertIs(1 <= number <= 9, self.asked(replaced(OVER, (2,), number)))

    def test_each_word_with_its_own_parts_alone(self):
        for task in TASKS:
            for other in TASKS:
                self.assertIs(task == other, self.asked((task[0],) + other[1:]))
            for word in ("", "Look", "LOOK", "bringer", "ove", " over", "task", "none", None, 0, True, ()):
                self.assertIs(False, self.asked((word,) + task[1:]))

    def test_spoiled(self):
        for task in TASKS:
            for thing in spoiled(task):
                self.assertIs(False, self.asked(thing), thing)

    def test_anything(self):
        for thing in (*ANYTHING, deep(30), ("look",), ("look", 1), ("bring", 1, 2), ("over", 1, 2), ("over", 0, 0, 0, 0),
                      ("look", LOOK, 2, 4), (LOOK,), "look 1 0 2 1 2 4"):
            self.assertIs(False, self.asked(thing), thing)

    def test_by_names(self):
        self.assertIs(True, is_task(thing=LOOK, land=LAND))


class LastStep(unittest.TestCase):
    def test_of_each_sort(self):
        told_so(self, "none", 0, unchanged(self, last_step, None))
        told_so(self, "look", 1, unchanged(self, last_step, LOOK))
        told_so(self, "bring", 2, unchanged(self, last_step, BRING))
        for many in range(1, 10):
            told_so(self, "over", many, unchanged(self, last_step, replaced(OVER, (2,), many)))

    def test_by_name(self):
        self.assertEqual(2, last_step(task=BRING))


class StepBy(unittest.TestCase):
    def every(self):
        for x in range(-1, 5):
            for y in range(-1, 4):
                for beat in range(7):
                    hours = beat in (2, 3, 4)
                    yield x, y, beat, hours and x in (1, 2) and y in (0, 1), hours and x in (2, 3) and y in (1, 2)

    def test_of_none(self):
        for x, y, beat, by_box, by_other in self.every():
            told_so(self, "none", 0, step_by(None, 0, x, y, beat))

    def test_look(self):
        for x, y, beat, by_box, by_other in self.every():
            told_so(self, (x, y, beat), 1 if by_box else 0, unchanged(self, step_by, LOOK, 0, x, y, beat))
            self.assertEqual(1, step_by(LOOK, 1, x, y, beat))

    def test_bring(self):
        for x, y, beat, by_box, by_other in self.every():
            told_so(self, (x, y, beat), 1 if by_box else 0, unchanged(self, step_by, BRING, 0, x, y, beat))
            told_so(self, (x, y, beat), 2 if by_other else 1, unchanged(self, step_by, BRING, 1, x, y, beat))
            self.assertEqual(2, step_by(BRING, 2, x, y, beat))

    def test_bring_takes_one_step_a_beat_where_both_boxes_are(self):
        self.assertEqual(1, step_by(BRING, 0, 2, 1, 3))
        self.assertEqual(2, step_by(BRING, 1, 2, 1, 3))
        self.assertEqual(1, step_by(replaced(BRING, (2,), BRING[1]), 0, 1, 0, 2))

    def test_over(self):
        for many in range(1, 10):
            task = replaced(OVER, (2,), many)
            for x, y, beat, by_box, by_other in self.every():
                for step in range(many):
                    self.assertEqual(step + 1 if by_box else 0, step_by(task, step, x, y, beat))
                self.assertEqual(many, step_by(task, many, x, y, beat))

    def test_over_falls_back_behind_its_hours(self):
        self.assertEqual(2, step_by(OVER, 1, 1, 1, 4))
        self.assertEqual(0, step_by(OVER, 2, 1, 1, 5))
        self.assertEqual(0, step_by(OVER, 2, 0, 1, 4))
        self.assertEqual(3, step_by(OVER, 3, 0, 0, 6))

    def test_by_names(self):
        self.assertEqual(2, step_by(beat=4, y=2, x=3, step=1, task=BRING))


class LoadOf(unittest.TestCase):
    def test_weight_at_step_one_of_bring_alone(self):
        for weight in range(10):
            task = replaced(BRING, (3,), weight)
            told_so(self, "load", (0, weight, 0), tuple(unchanged(self, load_of, task, step) for step in (0, 1, 2)))

    def test_else_nought(self):
        told_so(self, "none", 0, unchanged(self, load_of, None, 0))
        for step in (0, 1):
            told_so(self, "look", 0, unchanged(self, load_of, LOOK, step))
        for step in range(4):
            told_so(self, "over", 0, unchanged(self, load_of, OVER, step))

    def test_by_names(self):
        self.assertEqual(5, load_of(step=1, task=BRING))
