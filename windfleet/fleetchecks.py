"""How a fleet uses its pads, and the checkers of what is told of a fleet."""

from windfleet.beats import STAND, row_at
from windfleet.bounds import APART
from windfleet.kinds import are_rising, is_tuple_of, is_whole_from
from windfleet.lets import break_holds, let_holds
from windfleet.nears import apart_holds, near_holds
from windfleet.runs import walked


def twos(many):
    """Each two of so many numbers, rising."""
    return [(j, k) for j in range(many) for k in range(j + 1, many)]


def pads_used(land, flight, since, paper):
    """By the number of each pad that the flight uses by its paper: (beat, x, y, step) of a stand, None of its home."""
    used = {flight[4]: None}
    for beat, layer in zip(range(since, land.day), paper[0]):
        if row_at(flight, since, beat) == STAND:
            for x, y, step, charge in layer:
                used.setdefault(land.pad_at(x, y), (beat, x, y, step))
    return used


def have_pads_room(land, uses):
    """Whether each pad has room for as many as use it; uses has, for each flight, what has the pads it uses."""
    for number, pad in enumerate(land.pads):
        if len([used for used in uses if number in used]) > pad[4]:
            return False
    return True


def fleet_holds(land, winds, fleet, since, thing, *, apart=APART):
    """Whether it is ("let", singles, pairs) by which the fleet is let by."""
    if not is_tuple_of(thing, 3) or thing[0] != "let":
        return False
    word, singles, pairs = thing
    if not is_tuple_of(singles, len(fleet)) or not is_tuple_of(pairs, len(twos(len(fleet)))):
        return False
    for flight, paper in zip(fleet, singles):
        if not let_holds(land, winds, flight, since, paper):
            return False
    for (j, k), paper in zip(twos(len(fleet)), pairs):
        if not apart_holds(land, winds, fleet[j], fleet[k], since, paper, apart=apart):
            return False
    return have_pads_room(land, [pads_used(land, flight, since, paper) for flight, paper in zip(fleet, singles)])


def breach_holds(land, winds, fleet, since, thing, *, apart=APART):
    """Whether it is ("flight", ..), ("pair", ..) or ("pad", ..) that is so of the fleet, of the least or not."""
    if is_tuple_of(thing, 4) and thing[0] == "flight":
        return is_number(fleet, thing[1]) and break_holds(land, winds, fleet[thing[1]], since, thing[2:])
    if is_tuple_of(thing, 5) and thing[0] == "pair":
        j, k = thing[1:3]
        if not is_number(fleet, j) or not is_number(fleet, k) or j >= k:
            return False
        return near_holds(land, winds, fleet[j], fleet[k], since, thing[3:], apart=apart)
    if is_tuple_of(thing, 3) and thing[0] == "pad":
        return is_number(land.pads, thing[1]) and do_crowd(land, winds, fleet, since, thing[1], thing[2])
    return False


def is_number(numbered, thing):
    """Whether it is the number of one of those that are numbered."""
    return is_whole_from(thing, 0, len(numbered) - 1)


def do_crowd(land, winds, fleet, since, number, thing):
    """Whether it is rising rows of flights, unlike, that use the pad, more than it has room for."""
    if not isinstance(thing, tuple) or not all([is_user(land, winds, fleet, since, number, row) for row in thing]):
        return False
    return are_rising([k for k, run in thing]) and len(thing) > land.pads[number][4]


def is_user(land, winds, fleet, since, number, thing):
    """Whether it is (k, run), the run showing that flight k uses the pad."""
    if not is_tuple_of(thing, 2) or not is_number(fleet, thing[0]):
        return False
    return does_use(land, winds, fleet[thing[0]], since, number, thing[1])


def does_use(land, winds, flight, since, number, thing):
    """Whether it is a run that shows that the flight uses the pad: () where it is its home."""
    if flight[4] == number:
        return thing == ()
    return does_stand(land, winds, flight, since, number, thing)


def does_stand(land, winds, flight, since, number, thing):
    """Whether it is a run that leads the flight, without a break, to a stand on the pad at a beat below day."""
    told = walked(land, winds, flight, since, thing)
    if told is None or told[1] is not None:
        return False
    beat = since + len(thing)
    x, y, step, charge = told[0][-1]
    return beat < land.day and row_at(flight, since, beat) == STAND and land.pad_at(x, y) == number
