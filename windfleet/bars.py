"""Bars, which show why choices of menus aren't good, and their checker."""

from windfleet.bounds import APART
from windfleet.fleetchecks import does_use, is_number
from windfleet.kinds import are_rising, is_tuple_of
from windfleet.lets import break_holds
from windfleet.nears import near_holds
from windfleet.taskchecks import end_step
from windfleet.tasks import last_step


def bars_hold(land, winds, menus, choices, since, thing, *, apart=APART, surely=False):
    """Whether it is bars, all of them so, that bar each of these choices."""
    if not isinstance(thing, tuple):
        return False
    for bar in thing:
        if not is_bar(land, winds, menus, since, bar, apart, surely):
            return False
    return all([is_barred(choice, thing) for choice in choices])


def is_barred(choice, bars):
    """Whether one of the bars names places of the choice alone."""
    for bar in bars:
        if all([choice[k] == n for k, n in places_of(bar)]):
            return True
    return False


def places_of(bar):
    """The (menu, place) that a bar names."""
    if bar[0] == "pad":
        return [(k, n) for k, n, run in bar[2]]
    if bar[0] == "pair":
        return [bar[1:3], bar[3:5]]
    return [bar[1:3]]


def is_bar(land, winds, menus, since, thing, apart, surely):
    """Whether it is a bar that is so."""
    if is_tuple_of(thing, 5) and thing[0] == "flight":
        word, k, n, turn, run = thing
        return has_place(menus, k, n) and break_holds(land, winds, menus[k][n], since, (turn, run))
    if is_tuple_of(thing, 4) and thing[0] == "task":
        word, k, n, run = thing
        return surely and has_place(menus, k, n) and does_miss(land, winds, menus[k][n], since, run)
    if is_tuple_of(thing, 7) and thing[0] == "pair":
        word, j, m, k, n, run, other = thing
        if not has_place(menus, j, m) or not has_place(menus, k, n) or j >= k:
            return False
        return near_holds(land, winds, menus[j][m], menus[k][n], since, (run, other), apart=apart)
    if is_tuple_of(thing, 3) and thing[0] == "pad":
        return is_number(land.pads, thing[1]) and do_overfill(land, winds, menus, since, thing[1], thing[2])
    return False


def has_place(menus, k, n):
    """Whether the numbers, of anything, are those of a menu and of a place in it."""
    return is_number(menus, k) and is_number(menus[k], n)


def does_miss(land, winds, flight, since, thing):
    """Whether it is a run to day that doesn't break, and doesn't do the flight's task."""
    step = end_step(land, winds, flight, since, thing)
    # Without a task the one step there is is the last one, so no run misses it.
    return step is not None and step != last_step(flight[3])


def do_overfill(land, winds, menus, since, number, thing):
    """Whether it is rising rows of places, of unlike menus, that use the pad, more than it has room for."""
    if not isinstance(thing, tuple) or not all([is_use(land, winds, menus, since, number, row) for row in thing]):
        return False
    return are_rising([k for k, n, run in thing]) and len(thing) > land.pads[number][4]


def is_use(land, winds, menus, since, number, thing):
    """Whether it is (k, n, run), the run showing that place n of menu k uses the pad."""
    if not is_tuple_of(thing, 3) or not has_place(menus, thing[0], thing[1]):
        return False
    return does_use(land, winds, menus[thing[0]][thing[1]], since, number, thing[2])
