"""The refusals.

Where a refusal has a field, what was handed in by its place stands in its message without more:
Python's errors keep that when they are made, so no message is written here.
"""


class FleetError(ValueError):
    """What windfleet refuses, but names and numbers that are not there."""


class NoWinds(FleetError):
    """These aren't winds of the land."""


class NoFlight(FleetError):
    """This isn't a flight of the land."""


class NoNews(FleetError):
    """These aren't news of the fleet, with what is heard of them."""


class NoFlyer(FleetError):
    """This isn't a flyer."""


class NoTask(FleetError):
    """This isn't a task of the land, nor None."""


class NoWeather(FleetError):
    """This isn't a weather of the winds."""


class Full(FleetError):
    """As many flights are in the air as may be."""


class Over(FleetError):
    """The day is over."""


class Busy(FleetError):
    """Deeds are being done together."""


class NoLand(FleetError):
    """No land is so made: the name of the first field that isn't so."""

    def __init__(self, name):
        self.name = name


class NoText(FleetError):
    """No such text: the number of the line at which this is clear."""

    def __init__(self, at):
        self.at = at


class NotLet(FleetError):
    """The fleet wouldn't be let by: what is told of it."""

    def __init__(self, told):
        self.told = told


class NoDeed(FleetError):
    """No such deed: its place."""

    def __init__(self, at):
        self.at = at


class Undone(FleetError):
    """Deeds done together were undone: the place of the one that was refused."""

    def __init__(self, at):
        self.at = at


class Taken(FleetError):
    """The name is booked."""

    def __init__(self, name):
        self.name = name


class Clash(FleetError):
    """A booked room clashes: the name that has it."""

    def __init__(self, name):
        self.name = name


class NotHome(FleetError):
    """The flight is not at rest over its home pad: its number."""

    def __init__(self, number):
        self.number = number


class NoNumber(KeyError):
    """No flight in the air has this number."""

    def __init__(self, number):
        self.number = number


class NoBooking(KeyError):
    """No booking has this name."""

    def __init__(self, name):
        self.name = name
