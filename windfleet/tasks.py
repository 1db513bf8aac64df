"""Tasks, their steps, and what a flyer bears at each."""

from windfleet.kinds import is_span, is_tuple_of, is_whole_from
from windfleet.lands import box_has, is_box

HEAVIEST = 9
MOST_OVER = 9


def is_task(land, thing):
    """Whether it is a task of the land."""
    if is_tuple_of(thing, 4) and thing[0] == "look":
        return is_box(land, thing[1]) and is_span(thing[2], thing[3], land.day)
    if is_tuple_of(thing, 6) and thing[0] == "bring":
        boxes = is_box(land, thing[1]) and is_box(land, thing[2])
        return boxes and is_whole_from(thing[3], 0, HEAVIEST) and is_span(thing[4], thing[5], land.day)
    if is_tuple_of(thing, 5) and thing[0] == "over":
        many = is_whole_from(thing[2], 1, MOST_OVER)
        return many and is_box(land, thing[1]) and is_span(thing[3], thing[4], land.day)
    return False


def last_step(task):
    """The step at which the task is done; of None 0."""
    if task is None:
        return 0
    if task[0] == "look":
        return 1
    if task[0] == "bring":
        return 2
    return task[2]


def step_by(task, step, x, y, beat):
    """What the step becomes of a flyer that is at the square at the beat."""
    if step >= last_step(task):
        return step
    if is_served(task, step, x, y, beat):
        return step + 1
    if task[0] == "over":
        return 0
    return step


def is_served(task, step, x, y, beat):
    """Whether the square and the beat are what the task, not done yet, waits for at the step."""
    box = task[2] if task[0] == "bring" and step == 1 else task[1]
    return box_has(box, x, y) and task[-2] <= beat <= task[-1]


def load_of(task, step):
    """What the flyer bears at the step."""
    if task is not None and task[0] == "bring" and step == 1:
        return task[3]
    return 0
