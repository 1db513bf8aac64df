"""What kind of thing was handed in, asked of anything."""


def is_whole(thing):
    """Whether it is a whole number; a truth is none, though Python counts it among the ints."""
    return isinstance(thing, int) and not isinstance(thing, bool)


def is_whole_from(thing, least, greatest):
    """Whether it is a whole number from least to greatest."""
    return is_whole(thing) and least <= thing <= greatest


def are_wholes_from(things, least, greatest):
    """Whether all of the things are whole numbers from least to greatest."""
    return all([is_whole_from(thing, least, greatest) for thing in things])


def is_span(first, last, greatest):
    """Whether both are whole numbers from 0 to greatest, the first one no more than the last one."""
    return are_wholes_from((first, last), 0, greatest) and first <= last


def is_tuple_of(thing, many):
    """Whether it is a tuple of just so many parts."""
    return isinstance(thing, tuple) and len(thing) == many


def is_tuple_to(thing, most):
    """Whether it is a tuple of no more parts than most."""
    return isinstance(thing, tuple) and len(thing) <= most


def are_rising(things):
    """Whether each of the things, all of kinds that compare, is above the one ahead."""
    return all([ahead < behind for ahead, behind in zip(things, things[1:])])
