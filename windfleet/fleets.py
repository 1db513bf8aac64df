"""Whether a fleet is let by for every wind."""

from windfleet.bounds import APART
from windfleet.fleetchecks import pads_used, twos
from windfleet.judging import judged
from windfleet.pairs import paired
from windfleet.reach import led


def fleet_told(land, winds, fleet, since, *, apart=APART):
    """("let", singles, pairs), or the first that is so of ("flight", ..), ("pair", ..), ("pad", ..)."""
    singles = []
    for k, flight in enumerate(fleet):
        told = judged(land, winds, flight, since)
        if told[0] == "breaks":
            return "flight", k, told[1], told[2]
        singles.append(told[1])
    pairs = []
    for j, k in twos(len(fleet)):
        told = paired(land, winds, fleet[j], fleet[k], since, apart=apart)
        if told[0] == "near":
            return "pair", j, k, told[1], told[2]
        pairs.append(told[1])
    uses = [pads_used(land, flight, since, paper) for flight, paper in zip(fleet, singles)]
    for number, pad in enumerate(land.pads):
        users = [k for k, used in enumerate(uses) if number in used]
        if len(users) > pad[4]:
            return "pad", number, tuple([(k, run_by(land, winds, fleet[k], since, uses[k][number])) for k in users])
    return "let", tuple(singles), tuple(pairs)


def run_by(land, winds, flight, since, stand):
    """The run that leads the flight to a stand, (beat, x, y, step); () of None, its home."""
    if stand is None:
        return ()
    beat, x, y, step = stand
    return led(land, winds, flight, since, beat, x, y, step)
