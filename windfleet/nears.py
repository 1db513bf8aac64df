"""When two flyers are near, and the checkers of what is told of two flights."""

from windfleet.beats import beat_gone, row_at
from windfleet.bounds import APART
from windfleet.kinds import are_rising, is_tuple_of, is_whole
from windfleet.lands import is_square
from windfleet.runs import walked
from windfleet.winds import winds_at


def are_near(land, pair, apart):
    """Whether two squares, (x, y, u, v), are near."""
    x, y, u, v = pair
    if abs(x - u) >= apart or abs(y - v) >= apart:
        return False
    return land.pad_at(x, y) is None and land.pad_at(u, v) is None


def are_near_midway(land, ahead, behind, apart):
    """Whether two flyers are near midway between two squares ahead of a wind and two behind it."""
    x, y, u, v = ahead
    p, q, r, s = behind
    if abs(x + p - u - r) >= 2 * apart or abs(y + q - v - s) >= 2 * apart:
        return False
    return all([land.pad_at(a, b) is None for a, b in ((x, y), (u, v), (p, q), (r, s))])


def moves_of(land, winds, flight, since, beat, squares):
    """By each of the squares the (wind, square behind) of each wind there, None behind where it breaks but by charge.

    Where a flyer comes to hangs on neither its step nor its charge.
    """
    row = row_at(flight, since, beat)
    moves = {}
    for x, y in squares:
        moves[(x, y)] = []
        for wind in winds_at(winds, x, y, beat):
            come, word = beat_gone(land, flight, row, beat, (x, y, 0, 0), wind, True)
            moves[(x, y)].append((wind, come[:2] if word is None else None))
    return moves


def both_moves(land, winds, one, other, since, beat, layer):
    """The moves of both flights from the squares of a layer of pairs."""
    squares = {(x, y): True for x, y, u, v in layer}
    others = {(u, v): True for x, y, u, v in layer}
    return moves_of(land, winds, one, since, beat, squares), moves_of(land, winds, other, since, beat, others)


def pair_moves(moves, others, pair):
    """All (wind, square behind, other wind, other square behind) of a pair, one wind where both squares are one."""
    x, y, u, v = pair
    return [
        (wind, behind, blown, beyond)
        for wind, behind in moves[(x, y)]
        for blown, beyond in others[(u, v)]
        if wind == blown or (x, y) != (u, v)
    ]


def apart_holds(land, winds, one, other, since, thing, *, apart=APART):
    """Whether it is a paper by which the two flights are apart."""
    if not is_tuple_of(thing, land.day - since + 1) or not all([is_pair_layer(land, layer) for layer in thing]):
        return False
    if one[1][:2] + other[1][:2] not in thing[0]:
        return False
    if any([are_near(land, pair, apart) for layer in thing for pair in layer]):
        return False
    for at, beat in enumerate(range(since, land.day)):
        moves, others = both_moves(land, winds, one, other, since, beat, thing[at])
        if not keep_apart(land, moves, others, thing[at], thing[at + 1], apart):
            return False
    return True


def is_pair_layer(land, thing):
    """Whether it is a rising tuple of pairs of squares of the land."""
    return isinstance(thing, tuple) and all([is_pair(land, pair) for pair in thing]) and are_rising(thing)


def is_pair(land, thing):
    """Whether it is two squares of the land, (x, y, u, v)."""
    if not is_tuple_of(thing, 4) or not all([is_whole(part) for part in thing]):
        return False
    x, y, u, v = thing
    return is_square(land, x, y) and is_square(land, u, v)


def keep_apart(land, moves, others, layer, behind, apart):
    """Whether nothing breaks, and what comes of the layer is among the pairs behind, and isn't near midway."""
    kept = {pair: True for pair in behind}
    for pair in layer:
        for wind, square, blown, beyond in pair_moves(moves, others, pair):
            if square is None or beyond is None or square + beyond not in kept:
                return False
            if are_near_midway(land, pair, square + beyond, apart):
                return False
    return True


def near_holds(land, winds, one, other, since, thing, *, apart=APART):
    """Whether it is (run, other run) by which the two flights come near."""
    if not is_tuple_of(thing, 2):
        return False
    states = unbroken(land, winds, one, since, thing[0])
    beyond = unbroken(land, winds, other, since, thing[1])
    if states is None or beyond is None or len(states) != len(beyond):
        return False
    pairs = [state[:2] + met[:2] for state, met in zip(states, beyond)]
    for (x, y, u, v), wind, blown in zip(pairs, thing[0], thing[1]):
        if (x, y) == (u, v) and wind != blown:
            return False
    if are_near(land, pairs[-1], apart):
        return True
    return len(pairs) > 1 and are_near_midway(land, pairs[-2], pairs[-1], apart)


def unbroken(land, winds, flight, since, thing):
    """The states of a run without a turn that doesn't break; None of anything else."""
    told = walked(land, winds, flight, since, thing)
    if told is None or told[1] not in (None, "late"):
        return None
    return told[0]
