"""Whether two flights, each let by, are apart for every wind."""

from windfleet.bounds import APART
from windfleet.nears import are_near, are_near_midway, both_moves, pair_moves


def paired(land, winds, one, other, since, *, apart=APART):
    """("apart", paper), or ("near", run, other run)."""
    start = one[1][:2] + other[1][:2]
    if are_near(land, start, apart):
        return "near", (), ()
    layers = [{start: (None, None, None)}]
    for beat in range(since, land.day):
        moves, others = both_moves(land, winds, one, other, since, beat, layers[-1])
        behind, fault = spread_pairs(land, moves, others, layers[-1], apart)
        if fault is not None:
            run, beyond = runs_by(layers, fault)
            return "near", run, beyond
        layers.append(behind)
    return "apart", tuple([tuple(sorted(layer)) for layer in layers])


def spread_pairs(land, moves, others, layer, apart):
    """(layer behind, None): by each pair that comes its pair ahead and both winds; or (a part of it, such a fault)."""
    behind = {}
    for pair in layer:
        for wind, square, blown, beyond in pair_moves(moves, others, pair):
            if square is None or beyond is None:
                continue
            come = square + beyond
            if are_near(land, come, apart) or are_near_midway(land, pair, come, apart):
                return behind, (pair, wind, blown)
            if come not in behind:
                behind[come] = (pair, wind, blown)
    return behind, None


def runs_by(layers, fault):
    """Both runs that lead by the layers to the fault, its winds the last."""
    pair, wind, blown = fault
    run, other = [wind], [blown]
    for layer in reversed(layers[1:]):
        pair, wind, blown = layer[pair]
        run.append(wind)
        other.append(blown)
    return tuple(run[::-1]), tuple(other[::-1])
