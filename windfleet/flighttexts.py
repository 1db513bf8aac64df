"""Texts of flights."""

from windfleet.errors import NoText
from windfleet.flyers import is_flyer, is_state, is_way
from windfleet.kinds import is_whole_from
from windfleet.landtexts import line_of, lines_of, numbers_behind
from windfleet.tasks import is_task

# Of all tasks of a land it has the most steps: whatever step is told ahead of the task is one of its, or none.
LONGEST = ("over", (0, 0, 0, 0), 9, 0, 0)


def show_flight(flight):
    """The flight's text."""
    flyer, state, way, task, home = flight
    lines = [line_of("flyer", flyer), line_of("at", state), task_line(task), line_of("to", (home,))]
    lines.extend([line_of(row[0], row[1:]) for row in way])
    return "\n".join(lines)


def task_line(task):
    """The line that tells the task, or None."""
    if task is None:
        return "task none"
    numbers = []
    for part in task[1:]:
        numbers.extend(part if isinstance(part, tuple) else (part,))
    return "task " + line_of(task[0], numbers)


def read_flight(land, text):
    """The flight of the land that is so written; the land has a pad."""
    lines = lines_of(text)
    flyer = numbers_behind(line_at(lines, 0), "flyer", 4)
    if not is_flyer(flyer):
        raise NoText(0)
    state = numbers_behind(line_at(lines, 1), "at", 4)
    if not is_state(land, flyer, LONGEST, state):
        raise NoText(1)
    task = task_in(line_at(lines, 2))
    if not (task is None or is_task(land, task)) or not is_state(land, flyer, task, state):
        raise NoText(2)
    home = numbers_behind(line_at(lines, 3), "to", 1)
    if home is None or not is_whole_from(home[0], 0, len(land.pads) - 1):
        raise NoText(3)
    return flyer, state, way_from(lines, 4), task, home[0]


def line_at(lines, at):
    """The line at the place; where there is none a line that is nothing, by which its place is refused."""
    return lines[at] if at < len(lines) else ""


def task_in(line):
    """The task, or None, that the line tells; of another line (), which is neither."""
    if line == "task none":
        return None
    if not line.startswith("task "):
        return ()
    for word, many in (("look", 6), ("over", 7)):
        numbers = numbers_behind(line[5:], word, many)
        if numbers is not None:
            return (word, numbers[:4]) + numbers[4:]
    numbers = numbers_behind(line[5:], "bring", 11)
    if numbers is not None:
        return ("bring", numbers[:4], numbers[4:8]) + numbers[8:]
    return ()


def way_from(lines, at):
    """The way that all lines from the place on tell."""
    way = ()
    while at < len(lines):
        way = way + (row_in(lines[at]),)
        if not is_way(way):
            raise NoText(at)
        at += 1
    return way


def row_in(line):
    """The row of a way that the line tells, its numbers however great; None of another line."""
    if line in ("stand", "home"):
        return (line,)
    for word in ("go", "aim"):
        numbers = numbers_behind(line, word, 2)
        if numbers is not None:
            return (word,) + numbers
    return None
