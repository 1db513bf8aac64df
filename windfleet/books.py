"""Books of the rooms of the air: who has which, none of them another's."""

from windfleet.corridors import do_clash
from windfleet.errors import Clash, NoBooking, Taken
from windfleet.lands import room_has


class Book:
    """Rooms of a land, booked by names."""

    def __init__(self, land):
        self.land = land
        self.booked = {}

    def __len__(self):
        return len(self.booked)

    def __eq__(self, other):
        return isinstance(other, Book) and self.land == other.land and self.booked == other.booked

    def book(self, name, rooms):
        """Books the rooms by the name."""
        if name in self.booked:
            raise Taken(name)
        for held in self.names():
            if do_any_clash(self.booked[held], rooms):
                raise Clash(held)
        self.booked[name] = rooms

    def give_back(self, name):
        """The name, and what it has, is booked no longer."""
        if not self.has_name(name):
            raise NoBooking(name)
        del self.booked[name]

    def swap(self, name, other):
        """Each of both names has the other's rooms from now."""
        if not self.has_name(name):
            raise NoBooking(name)
        if not self.has_name(other):
            raise NoBooking(other)
        self.booked[name], self.booked[other] = self.booked[other], self.booked[name]

    def has_name(self, thing):
        """Whether it is a name that is booked; asked of a text alone, as a list is no key."""
        return isinstance(thing, str) and thing in self.booked

    def names(self):
        """All names that are booked, rising."""
        return tuple(sorted(self.booked))

    def rooms(self, name):
        """The rooms that the name has."""
        if not self.has_name(name):
            raise NoBooking(name)
        return self.booked[name]

    def who(self, x, y, beat):
        """The name that has the square at the beat, or None."""
        for name in self.names():
            if any([room_has(room, x, y, beat) for room in self.booked[name]]):
                return name
        return None


def do_any_clash(rooms, others):
    """Whether one of the rooms clashes with one of the others."""
    return any([do_clash(room, other) for room in rooms for other in others])
