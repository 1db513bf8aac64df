import copy
import random
import unittest

from tests.helping import ANYTHING, a_room, deep, squares_of, told_so, unchanged
from windfleet.books import Book
from windfleet.errors import Clash, NoBooking, Taken
from windfleet.lands import Land

LAND = Land(6, 4, day=5, pads=((0, 0, 0, 3, 4),))
ONE = (0, 0, 1, 1, 0, 5)
TWO = (2, 0, 3, 1, 0, 5)
THREE = (4, 0, 5, 3, 0, 2)
FOUR = (4, 0, 5, 3, 3, 5)


def a_book(*booked, land=LAND):
    book = Book(land)
    for name, rooms in booked:
        book.book(name, rooms)
    return book


def shown(book):
    """All that is told of a book."""
    squares = [(x, y, beat) for x in range(-1, 7) for y in range(-1, 5) for beat in range(-1, 7)]
    who = {place: book.who(*place) for place in squares}
    return len(book), book.names(), {name: book.rooms(name) for name in book.names()}, who


class Asking(unittest.TestCase):
    def refused(self, error, name, book, ask, *handed):
        """The deed is refused, with the name, and changes nothing."""
        before, handed_before = shown(book), copy.deepcopy(handed)
        other = copy.deepcopy(book)
        for again in range(2):
            with self.assertRaises(error) as caught:
                getattr(book, ask)(*handed)
            self.assertIs(error, type(caught.exception))
            self.assertEqual(repr(name), repr(caught.exception.name))
            self.assertEqual(before, shown(book))
            self.assertEqual(other, book)
            self.assertEqual(handed_before, handed)


class Books(Asking):
    def test_a_new_one(self):
        book = Book(LAND)
        told_so(self, "new", (0, (), {}), shown(book)[:3])
        self.assertEqual({None}, set(shown(book)[3].values()))

    def test_book(self):
        book = Book(LAND)
        self.assertIsNone(book.book("b", (ONE, FOUR)))
        self.assertIsNone(book.book("a", (THREE,)))
        told_so(self, "both", (2, ("a", "b"), {"a": (THREE,), "b": (ONE, FOUR)}), shown(book)[:3])
        self.assertEqual(["b", "a", "b", None], [book.who(*place) for place in ((1, 1, 5), (4, 3, 2), (4, 3, 3), (2, 2, 0))])

    def test_by_names(self):
        book = Book(land=LAND)
        book.book(rooms=(ONE,), name="a")
        book.book("b", rooms=())
        self.assertIsNone(book.swap(other="b", name="a"))
        self.assertEqual((ONE,), book.rooms(name="b"))
        self.assertEqual("b", book.who(beat=0, y=0, x=0))
        self.assertIsNone(book.give_back(name="b"))
        self.assertEqual(("a",), book.names())

    def test_rooms_none(self):
        book = a_book(("a", ()), ("b", ()), ("abcdefgh", (ONE,)))
        self.assertEqual(((), ()), (book.rooms("a"), book.rooms("b")))
        self.assertEqual(3, len(book))
        self.refused(Taken, "a", book, "book", "a", ())
        book.give_back("a")
        self.assertEqual(("abcdefgh", "b"), book.names())

    def test_rooms_of_one_name_that_clash_among_themselves(self):
        rooms = (ONE, (1, 1, 2, 2, 2, 3), ONE)
        book = a_book(("a", rooms))
        self.assertEqual(rooms, book.rooms("a"))
        self.assertEqual("a", book.who(1, 1, 2))
        self.refused(Clash, "a", book, "book", "b", ((2, 2, 2, 2, 3, 3),))

    def test_taken(self):
        book = a_book(("a", (ONE,)))
        self.refused(Taken, "a", book, "book", "a", (TWO,))
        self.refused(Taken, "a", book, "book", "a", (ONE,))
        book.give_back("a")
        book.book("a", (TWO,))
        self.assertEqual((TWO,), book.rooms("a"))

    def test_taken_ahead_of_clash(self):
        book = a_book(("a", (ONE,)), ("b", (TWO,)))
        self.refused(Taken, "b", book, "book", "b", (ONE,))

    def test_clash_with_the_least_name(self):
        book = a_book(("c", (ONE,)), ("b", (TWO,)), ("a", (THREE,)), ("ab", (FOUR,)))
        everywhere = (0, 0, 5, 3, 0, 5)
        self.refused(Clash, "a", book, "book", "z", (everywhere,))
        self.refused(Clash, "b", book, "book", "z", ((1, 0, 2, 0, 0, 0),))
        self.refused(Clash, "ab", book, "book", "z", (ONE, TWO, FOUR))
        self.refused(Clash, "c", book, "book", "z", ((2, 2, 3, 3, 0, 5), ONE))
        # Beside them it is free.
        book.book("z", ((0, 2, 3, 3, 0, 5),))
        book.give_back("a")
        self.refused(Clash, "ab", book, "book", "y", (everywhere,))

    def test_squares_alone_and_beats_alone_do_not_clash(self):
        book = a_book(("a", (THREE,)), ("b", (FOUR,)), ("c", (ONE,)), ("d", (TWO,)))
        self.assertEqual(4, len(book))

    def test_give_back(self):
        book = a_book(("a", (ONE,)), ("b", (TWO,)))
        self.assertIsNone(book.give_back("a"))
        told_so(self, "left", (1, ("b",), {"b": (TWO,)}), shown(book)[:3])
        self.assertIsNone(book.who(0, 0, 0))
        self.refused(NoBooking, "a", book, "give_back", "a")
        book.book("c", (ONE,))
        self.assertEqual("c", book.who(0, 0, 0))

    def test_swap(self):
        book = a_book(("a", (ONE, THREE)), ("b", (TWO,)), ("c", ()))
        self.assertIsNone(book.swap("a", "b"))
        self.assertEqual({"a": (TWO,), "b": (ONE, THREE), "c": ()}, shown(book)[2])
        self.assertEqual("b", book.who(0, 0, 0))
        book.swap("c", "a")
        self.assertEqual({"a": (), "b": (ONE, THREE), "c": (TWO,)}, shown(book)[2])

    def test_swap_with_both_the_same_name(self):
        book = a_book(("a", (ONE,)), ("b", (TWO,)))
        self.assertIsNone(book.swap("a", "a"))
        self.assertEqual(a_book(("a", (ONE,)), ("b", (TWO,))), book)

    def test_swap_with_name_first(self):
        book = a_book(("a", (ONE,)), ("b", (TWO,)))
        self.refused(NoBooking, "c", book, "swap", "c", "d")
        self.refused(NoBooking, "d", book, "swap", "a", "d")
        self.refused(NoBooking, "d", book, "swap", "d", "a")
        self.refused(NoBooking, [], book, "swap", [], {})
        self.refused(NoBooking, {}, book, "swap", "b", {})

    def test_no_booking_of_anything(self):
        book = a_book(("a", (ONE,)), ("b", ()))
        for thing in ANYTHING + (deep(30), ["a"], ("a",), {"a": "a"}, "A", "ab", "a ", b"a", ONE, (ONE,)):
            if thing == "a":
                continue
            self.refused(NoBooking, thing, book, "give_back", thing)
            self.refused(NoBooking, thing, book, "rooms", thing)
            self.refused(NoBooking, thing, book, "swap", thing, "a")
            self.refused(NoBooking, thing, book, "swap", "a", thing)
        self.refused(NoBooking, "a", Book(LAND), "rooms", "a")

    def test_refusals_are_of_their_kinds(self):
        book = a_book(("a", (ONE,)))
        with self.assertRaises(KeyError):
            book.give_back("b")
        with self.assertRaises(ValueError):
            book.book("a", ())

    def test_who_beyond_the_land(self):
        book = a_book(("a", ((0, 0, 5, 3, 0, 5),)))
        for place in ((-1, 0, 0), (6, 0, 0), (0, -1, 0), (0, 4, 0), (0, 0, -1), (0, 0, 6), (10 ** 39, -(10 ** 39), 10 ** 39)):
            self.assertIsNone(book.who(*place))
        self.assertEqual("a", book.who(5, 3, 5))

    def test_nothing_handed_in_is_changed_and_asking_again_tells_the_same(self):
        book = a_book(("a", (ONE,)))
        rooms = (TWO, THREE)
        book.book("b", rooms)
        book.swap("a", "b")
        self.assertEqual((TWO, THREE), rooms)
        for ask, handed in ((book.names, ()), (book.rooms, ("a",)), (book.who, (0, 0, 0)), (book.rooms, ("b",))):
            unchanged(self, ask, *handed)
        self.assertEqual([2, 2], [len(book), len(book)])
        self.assertEqual(LAND, Land(6, 4, day=5, pads=((0, 0, 0, 3, 4),)))

    def test_as_many_as_is_promised(self):
        land = Land(12, 12, day=24)
        book = Book(land)
        names = ["a" + "abcdefghij"[k % 10] + "abcd"[k // 10] for k in range(40)]
        squares = [(x, y) for x in range(12) for y in range(12)]
        for k, name in enumerate(names):
            book.book(name, tuple((*square, *square, k // 2, k // 2) for square in squares[k % 2 * 40:k % 2 * 40 + 40]))
        self.assertEqual((40, tuple(sorted(names))), (len(book), book.names()))
        self.assertEqual(names[6], book.who(0, 0, 3))
        self.refused(Clash, min(names), book, "book", "z", ((0, 0, 11, 11, 0, 24),))


class Equality(unittest.TestCase):
    def same(self, wanted, one, other):
        for first, second in ((one, other), (other, one)):
            self.assertIs(wanted, first == second)
            self.assertIs(not wanted, first != second)

    def test_the_same_names_with_the_same_rooms(self):
        self.same(True, Book(LAND), Book(LAND))
        self.same(True, a_book(("a", (ONE,)), ("b", (TWO,))), a_book(("b", (TWO,)), ("a", (ONE,))))
        self.same(False, a_book(("a", (ONE,))), a_book(("b", (ONE,))))
        self.same(False, a_book(("a", (ONE,))), a_book(("a", (TWO,))))
        self.same(False, a_book(("a", (ONE,))), a_book(("a", (ONE,)), ("b", ())))
        self.same(False, a_book(("a", (ONE,))), Book(LAND))
        self.same(False, a_book(("a", (ONE,)), ("b", (TWO,))), a_book(("b", (ONE,)), ("a", (TWO,))))

    def test_rooms_in_another_order(self):
        self.same(False, a_book(("a", (ONE, TWO))), a_book(("a", (TWO, ONE))))
        self.same(False, a_book(("a", (ONE, ONE))), a_book(("a", (ONE,))))
        self.same(True, a_book(("a", (ONE, TWO))), a_book(("a", (ONE, TWO))))

    def test_equal_lands_and_other_ones(self):
        equal = Land(6, 4, day=5, pads=((0, 0, 0, 3, 4),))
        self.same(True, a_book(("a", (ONE,))), a_book(("a", (ONE,)), land=equal))
        self.same(False, a_book(("a", (ONE,))), a_book(("a", (ONE,)), land=Land(6, 4, day=5)))
        self.same(False, Book(LAND), Book(Land(6, 4, day=6, pads=((0, 0, 0, 3, 4),))))

    def test_other_things(self):
        for thing in ANYTHING + (LAND, {"a": (ONE,)}):
            self.same(False, a_book(("a", (ONE,))), thing)
            self.same(False, Book(LAND), thing)

    def test_what_was_done_and_undone(self):
        book = a_book(("a", (ONE,)), ("b", (TWO,)))
        book.swap("a", "b")
        self.same(False, book, a_book(("a", (ONE,)), ("b", (TWO,))))
        book.swap("b", "a")
        self.same(True, book, a_book(("a", (ONE,)), ("b", (TWO,))))
        book.give_back("b")
        self.same(True, book, a_book(("a", (ONE,))))

    def test_no_two_share_anything(self):
        one, other = Book(LAND), Book(LAND)
        one.book("a", (ONE,))
        self.assertEqual((1, 0), (len(one), len(other)))
        other.book("b", (ONE,))
        one.give_back("a")
        self.assertEqual(((), ("b",)), (one.names(), other.names()))


class OverManyDeeds(unittest.TestCase):
    def test_against_a_second_telling(self):
        told = {}
        for number in range(60):
            rand = random.Random(number)
            book, again = Book(LAND), {}
            for step in range(40):
                deed = rand.choice(("book", "book", "book", "give_back", "swap"))
                names = [rand.choice("abcde") * rand.choice((1, 2)) for k in range(2)]
                rooms = tuple(self.a_small_room(rand) for k in range(rand.randrange(3)))
                handed = {"book": (names[0], rooms), "give_back": names[:1], "swap": names}[deed]
                wanted = getattr(self, deed + "_again")(again, *handed)
                got = None
                try:
                    self.assertIsNone(getattr(book, deed)(*handed))
                except (Taken, Clash, NoBooking) as refusal:
                    got = type(refusal).__name__, refusal.name
                self.assertEqual(wanted, got)
                told[deed, wanted and wanted[0]] = True
                self.holds(book, again)
        self.assertEqual(7, len(told), told)

    def a_small_room(self, rand):
        x1, y1, x2, y2, first, last = a_room(rand, 6, 4, 5)
        return x1, y1, min(x1 + 1, x2), min(y1 + 1, y2), first, min(first + 1, last)

    def book_again(self, again, name, rooms):
        if name in again:
            return "Taken", name
        for other in sorted(again):
            if self.places(again[other]) & self.places(rooms):
                return "Clash", other
        again[name] = rooms

    def give_back_again(self, again, name):
        if name not in again:
            return "NoBooking", name
        again.pop(name)

    def swap_again(self, again, name, other):
        for wanted in (name, other):
            if wanted not in again:
                return "NoBooking", wanted
        again[name], again[other] = again[other], again[name]

    def places(self, rooms):
        return {(*square, beat) for room in rooms for square in squares_of(room) for beat in range(room[4], room[5] + 1)}

    def holds(self, book, again):
        many, names, rooms, who = shown(book)
        self.assertEqual((len(again), tuple(sorted(again)), again), (many, names, rooms))
        held = {place: name for name in again for place in self.places(again[name])}
        self.assertEqual({place: held.get(place) for place in who}, who)
