"""One beat of a flight: its row, its wish, and what comes of it."""

from windfleet.tasks import load_of, step_by

STAND = ("stand",)
HOME = ("home",)


def row_at(flight, since, beat, *, turn=None):
    """The row at the beat of a flight that is flown from since on, and turns home at turn, if at all."""
    way = flight[2]
    if turn is not None and beat >= turn:
        return HOME
    if since <= beat < since + len(way):
        return way[beat - since]
    return HOME


def wish_of(land, flight, row, x, y):
    """The wish of a flyer at the square by the row, cut to its reach."""
    reach = flight[0][0]
    a, b = uncut_wish(land, flight, row, x, y)
    return cut_to(a, reach), cut_to(b, reach)


def uncut_wish(land, flight, row, x, y):
    """The wish as if there were no reach."""
    if row[0] == "go":
        return row[1], row[2]
    if row[0] == "aim":
        return row[1] - x, row[2] - y
    x1, y1, x2, y2, many = land.pads[flight[4]]
    return (x1 + x2) // 2 - x, (y1 + y2) // 2 - y


def cut_to(number, most):
    """The number, made no greater than most and no less than most below 0."""
    return max(-most, min(most, number))


def beat_done(land, flight, row, beat, state, wind):
    """(state, None) behind the beat, or (None, word) where it breaks."""
    return beat_gone(land, flight, row, beat, state, wind, False)


def beat_gone(land, flight, row, beat, state, wind, owing):
    """As beat_done; where owing, charge below 0 breaks nothing."""
    x, y, step, charge = state
    if is_standing(land, flight, row, x, y):
        if land.pad_at(x, y) is None:
            return None, "nopad"
        flyer = flight[0]
        return come_to(land, flight, beat + 1, (x, y, step, min(flyer[2], charge + flyer[3])))
    drifted = drift(land, flight, row, state, wind)
    if drifted[3] < 0 and not owing:
        return None, "empty"
    return come_to(land, flight, beat + 1, drifted)


def is_standing(land, flight, row, x, y):
    """Whether a flyer at the square stands by the row, rather than flies."""
    return row == STAND or (row == HOME and is_over_home(land, flight, x, y))


def is_over_home(land, flight, x, y):
    """Whether the flight's home pad has the square."""
    return land.pad_at(x, y) == flight[4]


def drift(land, flight, row, state, wind):
    """The state with the square and the charge behind a beat of flying, its step as it was."""
    x, y, step, charge = state
    wx, wy = wind
    a, b = wish_of(land, flight, row, x, y)
    cost = 1 + abs(a) + abs(b) + against(a, wx) + against(b, wy) + load_of(flight[3], step)
    return x + a + wx, y + b + wy, step, charge - cost


def against(wish, wind):
    """1 where one is above 0 and the other below, else 0."""
    return 1 if wish * wind < 0 else 0


def come_to(land, flight, beat, state):
    """The state with its step become, of a flyer that comes to its square at the beat; or the word that breaks it."""
    x, y, step, charge = state
    word = land.hurts(x, y, beat, flight[0][1])
    if word is not None:
        return None, word
    return (x, y, step_by(flight[3], step, x, y, beat), charge), None
