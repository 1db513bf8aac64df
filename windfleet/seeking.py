"""Choices of menus, tried one by one: the least good one sought."""

from windfleet.bars import is_barred
from windfleet.bounds import APART
from windfleet.fleetchecks import pads_used, twos
from windfleet.fleets import run_by
from windfleet.judging import judged
from windfleet.pairs import paired
from windfleet.reach import led
from windfleet.tasking import tasked


def sought(land, winds, menus, since, *, apart=APART, surely=False):
    """("choice", choice), the least good one, or ("none", bars)."""
    trial = Trial(land, winds, menus, since, apart, surely)
    for choice in choices_of(menus):
        if trial.is_good(choice):
            return "choice", choice
    return "none", tuple(trial.bars)


def choices_of(menus):
    """All choices of the menus, rising."""
    choices = [()]
    for menu in menus:
        choices = [choice + (n,) for choice in choices for n in range(len(menu))]
    return choices


class Trial:
    """Choices of menus tried, with what was found: nothing is judged twice, as choices share their places."""

    def __init__(self, land, winds, menus, since, apart, surely):
        self.land = land
        self.gusts = winds
        self.menus = menus
        self.since = since
        self.apart = apart
        self.surely = surely
        self.uses = {}
        self.parted = {}
        self.bars = []

    def is_good(self, choice):
        """Whether the choice is good; of one that isn't a bar is kept."""
        if is_barred(choice, self.bars):
            return False
        bar = self.bar_of(choice)
        if bar is None:
            return True
        self.bars.append(bar)
        return False

    def bar_of(self, choice):
        """A bar that bars the choice, or None."""
        for k, n in enumerate(choice):
            bar = self.bar_of_one(k, n)
            if bar is not None:
                return bar
        for j, k in twos(len(choice)):
            bar = self.bar_of_two(j, choice[j], k, choice[k])
            if bar is not None:
                return bar
        return self.bar_of_pads(choice)

    def bar_of_one(self, k, n):
        """The bar of a place by itself, or None: then the pads that it uses are kept."""
        if (k, n) in self.uses:
            return None
        flight = self.menus[k][n]
        told = judged(self.land, self.gusts, flight, self.since)
        if told[0] == "breaks":
            return "flight", k, n, told[1], told[2]
        if self.surely and flight[3] is not None:
            run = missing_run(self.land, self.gusts, flight, self.since)
            if run is not None:
                return "task", k, n, run
        self.uses[(k, n)] = pads_used(self.land, flight, self.since, told[1])
        return None

    def bar_of_two(self, j, m, k, n):
        """The bar of two places, each let by, or None: then that they are apart is kept."""
        if (j, m, k, n) in self.parted:
            return None
        one, other = self.menus[j][m], self.menus[k][n]
        told = paired(self.land, self.gusts, one, other, self.since, apart=self.apart)
        if told[0] == "near":
            return "pair", j, m, k, n, told[1], told[2]
        self.parted[(j, m, k, n)] = True
        return None

    def bar_of_pads(self, choice):
        """The bar by a pad that more of the choice's places use than it has room for, or None."""
        for number, pad in enumerate(self.land.pads):
            users = [(k, n) for k, n in enumerate(choice) if number in self.uses[(k, n)]]
            if len(users) > pad[4]:
                # One more than it has room for is enough: the fewer a bar names, the more it bars.
                return "pad", number, tuple([(k, n, self.run_to_pad(k, n, number)) for k, n in users[:pad[4] + 1]])
        return None

    def run_to_pad(self, k, n, number):
        """The run that shows that the place uses the pad."""
        return run_by(self.land, self.gusts, self.menus[k][n], self.since, self.uses[(k, n)][number])


def missing_run(land, winds, flight, since):
    """A run to day by which the flight, let by, doesn't do its task; None where each does."""
    told = tasked(land, winds, flight, since)
    if told[0] == "sure":
        return None
    if told[0] == "perhaps":
        return told[2]
    x, y, step = told[1][-1][0]
    return led(land, winds, flight, since, land.day, x, y, step)
