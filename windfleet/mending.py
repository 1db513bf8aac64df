"""A choice of menus mended: as few of its places turned as can be."""

from windfleet.bounds import APART
from windfleet.seeking import Trial, choices_of


def mended(land, winds, menus, now, since, *, apart=APART, surely=False):
    """("choice", choice, bars), of the good ones that turn the fewest places the least, or ("none", bars)."""
    trial = Trial(land, winds, menus, since, apart, surely)
    for many in range(len(menus) + 1):
        # What was barred so far bars all that differ in fewer places, and of more nothing need be shown.
        bars = tuple(trial.bars)
        for choice in choices_of(menus):
            if places_turned(choice, now) == many and trial.is_good(choice):
                return "choice", choice, bars
    return "none", tuple(trial.bars)


def places_turned(choice, now):
    """In how many places two choices differ."""
    return len([k for k, n in enumerate(choice) if n != now[k]])
