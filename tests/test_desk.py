import random
import unittest

from tests.helping import ANYTHING, a_fair_flight, a_fair_land, deep, fair_winds, show_flight_again, show_land_again, show_winds_again
from windfleet import errors
from windfleet.books import Book
from windfleet.desk import Desk
from windfleet.grounds import Ground
from windfleet.winds import winds_at

LAND = "land 6 4 6 ; barred 4 3 4 3 0 6 ; pad 0 0 0 3 4 ; pad 5 0 5 3 2 ; pad 3 0 3 0 1"
REST = "flyer 2 9 50 3 ; at 0 {} 0 50 ; task none ; to 0"
OUT = "flyer 2 9 50 3 ; at 0 0 0 50 ; task look 1 0 1 0 1 1 ; to 0 ; go 1 0 ; go 1 0"
EAST = "wind 2 0 2 3 0 6 0 1 0 0"


def a_desk(*rows, land=LAND):
    desk = Desk()
    for row in (land, *rows):
        desk.say(row)
    return desk


class Asking(unittest.TestCase):
    def says(self, desk, *pairs):
        for row, wanted in pairs:
            told = desk.say(row)
            self.assertIs(str, type(told))
            self.assertEqual(wanted, told, row)

    def refused(self, desk, row, error=errors.NoText, **fields):
        """The row is refused so, twice, and nothing of the desk is changed."""
        fields = fields or {"at": 0}
        before = self.seen(desk)
        for again in range(2):
            with self.assertRaises((errors.FleetError, KeyError), msg=row) as caught:
                desk.say(row)
            self.assertIs(error, type(caught.exception), row)
            if error in (errors.NoText, errors.NoNumber, errors.NotHome, errors.Taken, errors.Clash, errors.NoBooking):
                self.assertEqual(repr(fields), repr({name: getattr(caught.exception, name) for name in fields}), row)
        self.assertEqual(before, self.seen(desk))
        return caught.exception

    def seen(self, desk):
        """What rows that only ask tell; None ahead of the first land."""
        try:
            told = [desk.say("word")] + [desk.say(f"who {x} 0 {beat}") for x in range(6) for beat in range(3)]
        except errors.NoText:
            return None
        for number in range(4):
            try:
                told.append(desk.say(f"where {number}"))
            except errors.NoNumber:
                told.append(None)
        return told


class Rows(Asking):
    def test_a_day(self):
        self.says(
            Desk(), (LAND, "ok"), ("word", "none"), (f"fly {OUT}", "number 0"), ("word", "let"), (f"winds {EAST}", "let"),
            ("go", "gone"), ("where 0", "1 0 1 48"), ("go", "gone"), ("where 0", "2 0 1 46"),
            ("go 2 0 1 0", "gone"), ("where 0", "1 1 1 41"), ("home 0", "let"), ("go", "gone"), ("where 0", "0 1 1 39"),
            ("rest 0", "ok"), ("word", "none"), ("fly " + REST.format(2), "number 1"), ("where 1", "0 2 0 50"),
        )

    def test_go_with_those_that_broke(self):
        desk = a_desk(*[f"fly {text}" for text in (
            REST.format(0), "flyer 2 9 50 3 ; at 4 0 0 50 ; task none ; to 1", "flyer 2 9 50 3 ; at 4 2 0 50 ; task none ; to 0")])
        self.says(
            desk, ("winds wind 4 0 4 0 0 6 0 0 -2 0 ; wind 4 2 4 2 0 6 0 2 0 2", "not let"), ("word", "flight 1"),
            ("go 4 2 2 2", "gone ; 1 out ; 2 barred"), ("word", "let"), ("where 0", "0 0 0 50"))
        self.refused(desk, "where 1", errors.NoNumber, number=1)

    def test_go_with_several_winds(self):
        desk = a_desk("fly flyer 2 9 50 3 ; at 2 1 0 50 ; task none ; to 0", f"winds {EAST}")
        self.says(desk, ("go 2 0 0 0 , 2 1 1 0 , 2 2 1 0", "gone"), ("where 0", "1 1 0 46"))

    def test_words(self):
        desk = a_desk(*[f"fly {REST.format(y)}" for y in range(4)], "rest 0", "rest 2")
        self.says(desk, ("word", "let"), ("winds wind 0 0 5 3 0 6 1 1 0 0", "let"))
        near = a_desk("fly " + REST.format(0), "rest 0", *["fly " + text for text in (
            "flyer 2 9 50 3 ; at 1 0 0 50 ; task none ; to 0", "flyer 2 9 50 3 ; at 1 1 0 50 ; task none ; to 0 ; go 0 0")])
        self.says(near, ("winds wind 1 0 1 0 0 0 1 1 0 0", "not let"), ("word", "pair 1 2"))
        late = a_desk("fly " + REST.format(0), "fly flyer 2 9 50 3 ; at 1 0 0 50 ; task none ; to 0", "rest 0")
        self.says(late, ("winds wind 0 0 5 3 0 6 1 1 0 0", "not let"), ("word", "flight 1"))

    def test_word_of_a_pad(self):
        # By the wind one comes over another pad when its row is stand.
        land = "land 5 1 5 ; pad 0 0 0 0 1 ; pad 3 0 3 0 1 ; pad 2 0 2 0 1"
        desk = a_desk(
            "fly flyer 2 9 50 3 ; at 1 0 0 50 ; task none ; to 0 ; go 1 0 ; stand",
            "fly flyer 2 9 50 3 ; at 3 0 0 50 ; task none ; to 1", land=land)
        self.says(desk, ("word", "let"), ("winds wind 1 0 1 0 0 0 0 1 0 0", "not let"), ("word", "pad 1"), ("winds", "let"))

    def test_winds_alone(self):
        desk = a_desk("fly flyer 2 9 50 3 ; at 1 0 0 50 ; task none ; to 0")
        self.says(desk, ("winds wind 0 0 5 3 0 6 1 1 0 0", "not let"), ("winds", "let"), ("winds " + EAST, "let"))

    def test_home(self):
        desk = a_desk("fly flyer 2 9 50 3 ; at 3 1 0 50 ; task none ; to 0 ; go 1 0 ; go 0 0")
        self.says(
            desk, ("winds wind 4 0 4 3 1 1 2 2 0 0", "not let"), ("home 0", "let"), ("winds wind 0 0 5 3 0 6 2 2 0 0", "not let"),
            ("home 0", "not let"))

    def test_books(self):
        desk = a_desk()
        self.says(
            desk, ("who 0 0 0", "no one"), ("book a 0 0 1 1 0 6", "ok"), ("book abcdefgh", "ok"),
            ("book b 2 0 2 0 0 2 , 2 0 2 0 4 6", "ok"), ("who 1 1 6", "a"), ("who 2 0 2", "b"), ("who 2 0 3", "no one"),
            ("who -1 0 0", "no one"), ("who 99 -99 12345678901234567890", "no one"), ("back a", "ok"), ("who 1 1 6", "no one"),
            ("book a 1 1 1 1 0 6", "ok"), ("who 1 1 6", "a"))

    def test_a_lands_row_anew(self):
        desk = a_desk("fly " + OUT, "winds " + EAST, "go", "book a 0 0 0 0 0 0")
        self.says(desk, ("word", "let"), ("land 3 2 4 ; row 012 ; row 000 ; people 2 1 2 1 0 0 ; pad 0 0 0 0 1", "ok"))
        self.says(desk, ("word", "none"), ("who 0 0 0", "no one"), ("book a 0 0 0 0 0 0", "ok"))
        self.says(desk, ("fly flyer 2 9 50 3 ; at 0 0 0 50 ; task none ; to 0", "number 0"))
        self.refused(desk, "fly " + OUT.replace("at 0 0", "at 5 0"))
        self.says(desk, ("go", "gone"), ("go", "gone"), ("go", "gone"), ("go", "gone"))
        self.refused(desk, "go", errors.Over)

    def test_lands_without_a_pad(self):
        desk = a_desk(land="land 2 2 3")
        self.refused(desk, "fly flyer 2 9 50 3 ; at 0 0 0 50 ; task none ; to 0")
        self.says(desk, ("go", "gone"), ("winds", "let"), ("book a 1 1 1 1 3 3", "ok"))

    def test_by_name(self):
        desk = Desk()
        self.assertEqual("ok", desk.say(row=LAND))

    def test_no_two_share_anything(self):
        one, other = a_desk("book a", "fly " + REST.format(0)), a_desk()
        self.says(other, ("word", "none"), ("book a", "ok"), ("fly " + REST.format(0), "number 0"))
        self.says(one, ("back a", "ok"))
        self.refused(other, "book a", errors.Taken, name="a")


class NoRows(Asking):
    def test_of_anything(self):
        for desk in (Desk(), a_desk("fly " + OUT)):
            for thing in ANYTHING + (deep(30), [LAND], (LAND,), ["word"], b"word", {"word": 0}, ("go",)):
                self.refused(desk, thing)

    def test_ahead_of_the_first_land(self):
        desk = Desk()
        for row in ("word", "go", "winds", "fly " + OUT, "home 0", "rest 0", "where 0", "book a", "back a", "who 0 0 0", ""):
            self.refused(desk, row)
        self.refused(desk, "land 0 0 0")
        self.refused(desk, "word")
        self.says(desk, (LAND, "ok"), ("word", "none"))

    def test_blanks_and_line_ends(self):
        desk = a_desk("fly " + OUT, "book a")
        for row in (LAND, "word", "go", "winds", "winds " + EAST, "fly " + OUT, "home 0", "rest 0", "where 0", "book b", "back a",
                    "who 0 0 0", "book b 0 0 0 0 0 0 , 1 0 1 0 0 0", "go 2 0 0 0"):
            for wrong in (" " + row, row + " ", row + "\n", "\n" + row, row.replace(" ", "  ", 1) + " ", row + " ;", row + " ; ",
                          "; " + row, row.upper(), row + "\t", row + ","):
                self.refused(desk, wrong)
            if " ; " in row:
                for other in ("\n", " \n ", ";", " ;", "; ", " ;  ", " ; ; ", " , "):
                    self.refused(desk, row.replace(" ; ", other, 1))

    def test_words_unknown_and_too_many(self):
        desk = a_desk("fly " + OUT, "book a")
        for row in ("x", "tell", "send 0", "weaken 0", "give 0 none", "call_home 0", "together", "numbers", "beat", "swap a a", "fly",
                    "word 0", "word let", "home", "home 0 0", "rest", "rest 0 0", "where", "where 0 0", "who", "who 0 0", "who 0 0 0 0",
                    "back", "back a a", "book", "winds 0", "winds none", "winds wind", "go 0", "go x", ";", ",", "land"):
            self.refused(desk, row)

    def test_how_numbers_are_written(self):
        desk = a_desk("fly " + OUT)
        for number in ("00", "-0", "+0", "01", "x", "0.0", "0x0", "-", "1_0", "\u0660"):
            for row in (f"home {number}", f"rest {number}", f"where {number}", f"who {number} 0 0", f"who 0 0 {number}",
                        f"go {number} 0 0 0", f"go 0 0 {number} 0", f"book b 0 0 0 0 0 {number}"):
                self.refused(desk, row)

    def test_lands_texts(self):
        desk = a_desk("fly " + OUT)
        for row in ("land", "land 6 4", "land 13 4 6", LAND + " ; pad 3 0 3 0 1", LAND + " ; row 000000", "land 6 4 6 ; row 000000",
                    "land 6 4 6 ; " + " ; ".join(["barred 0 0 0 0 0 0"] * 9), "land 6 4 6" + " ; x" * 450):
            self.refused(desk, row)

    def test_texts_that_are_not_the_lands(self):
        desk = a_desk()
        for text in (OUT.replace("at 0 0", "at 6 0"), OUT.replace("to 0", "to 3"), OUT.replace("look 1 0", "look 6 0"), OUT + " ; go 3 0",
                     "flyer 2 9 50 3", OUT + " ; go 0 0" * 23, EAST, LAND):
            self.refused(desk, "fly " + text)
        for text in ("wind 2 0 6 3 0 6 0 1 0 0", "wind 2 0 2 3 0 7 0 1 0 0", "wind 2 0 2 3 0 6 1 0 0 0", " ; ".join([EAST] * 9), OUT):
            self.refused(desk, "winds " + text)

    def test_winds_of_this_beat(self):
        desk = a_desk("fly " + OUT, "winds " + EAST)
        for row in ("go 2 1 0 0 , 2 0 0 0", "go 2 1 0 0 , 2 1 0 0", "go 2 1 0 0 , 2 1 1 0", "go 2 1 0 0 ,", "go , 2 1 0 0", "go ,",
                    "go 2 1 0 0 2 2 0 0", "go 2 1 0 0 , , 2 2 0 0", "go 2 1 0", "go 2 1 0 0 0", "go 2 1 0 0 ; 2 2 0 0", "go 2 1 0 0, 2 2 0 0"):
            self.refused(desk, row)
        for row in ("go 2 1 2 0", "go 0 0 1 0", "go 6 0 0 0", "go -1 0 0 0", "go 0 0 0 0 , 2 0 -1 0", "go 2 1 99999999999999999999 0"):
            self.refused(desk, row, errors.NoWeather)

    def test_names_that_are_none(self):
        desk = a_desk("book a")
        for name in ("abcdefghi", "A", "a1", "a-b", "1", "-", "a_b", "a,", ",", ";", "\u00e4", "aB"):
            self.refused(desk, f"book {name}")
            self.refused(desk, f"book {name} 0 0 0 0 0 0")
            self.refused(desk, f"back {name}")

    def test_rooms_that_are_not_the_lands(self):
        desk = a_desk("book a 0 0 0 0 0 0")
        for room in ("6 0 6 0 0 0", "0 0 0 4 0 0", "0 0 0 0 0 7", "1 0 0 0 0 0", "0 0 0 0 2 1", "-1 0 0 0 0 0", "0 0 0 0 0", "0 0 0 0 0 0 0",
                     "0 0 0 0 0 0 , 6 0 6 0 0 0", "0 0 0 0 0 0 ,", ", 0 0 0 0 0 0", "0 0 0 0 0 0 1 1 1 1 1 1", "0 0 0 0 0 0 ; 1 1 1 1 1 1"):
            self.refused(desk, f"book b {room}")
            # Ahead of what the book would refuse.
            self.refused(desk, f"book a {room}")


class Refusals(Asking):
    def test_of_the_ground(self):
        desk = a_desk("fly " + OUT)
        for row in ("home 1", "rest 1", "where 1"):
            self.refused(desk, row, errors.NoNumber, number=1)
        for row in ("home -1", "rest -1", "where -1"):
            self.refused(desk, row, errors.NoNumber, number=-1)
        self.refused(desk, "home " + "9" * 3000, errors.NoNumber, number=int("9" * 3000))
        self.refused(desk, "rest 0", errors.NotHome, number=0)
        refusal = self.refused(desk, "fly flyer 2 9 50 3 ; at 4 3 0 50 ; task none ; to 0", errors.NotLet)
        self.assertEqual(("flight", 1, 0, ()), refusal.told)
        for y in (1, 2, 3):
            desk.say("fly " + REST.format(y))
        self.refused(desk, "fly " + REST.format(1), errors.Full)

    def test_over(self):
        desk = a_desk("fly " + REST.format(0), *["go"] * 6)
        for row in ("go", "go 2 0 9 9", "fly " + REST.format(1), "home 0", "home 7"):
            self.refused(desk, row, errors.Over)
        self.refused(desk, "go x")
        self.says(desk, ("winds " + EAST, "let"), ("where 0", "0 0 0 50"), ("word", "let"), ("rest 0", "ok"))

    def test_of_the_book(self):
        desk = a_desk("book a 0 0 1 1 0 6", "book b 2 0 2 0 0 6")
        self.refused(desk, "book a", errors.Taken, name="a")
        self.refused(desk, "book a 0 0 1 1 0 6", errors.Taken, name="a")
        self.refused(desk, "book c 1 0 2 0 6 6", errors.Clash, name="a")
        self.refused(desk, "book c 2 0 2 0 6 6", errors.Clash, name="b")
        self.refused(desk, "back c", errors.NoBooking, name="c")


class OverManyRows(Asking):
    def test_against_a_ground_and_a_book(self):
        seen = {}
        for number in range(120):
            rand = random.Random(number)
            land = a_fair_land(rand, rand.randint(3, 6))
            desk, ground, book = Desk(), Ground(land), Book(land)
            self.says(desk, (show_land_again(land).replace("\n", " ; "), "ok"))
            for step in range(20):
                row, ask = self.a_row(rand, land, ground, book)
                try:
                    wanted = ask()
                except (errors.FleetError, KeyError) as refusal:
                    with self.assertRaises(type(refusal)) as caught:
                        desk.say(row)
                    self.assertEqual(repr(vars(refusal)), repr(vars(caught.exception)))
                    seen[row.split(" ")[0], type(refusal).__name__] = True
                else:
                    self.says(desk, (row, wanted))
                    seen[row.split(" ")[0], "told"] = True
                self.says(desk, ("word", self.word(ground)))
        for wanted in ("fly", "winds", "home", "go", "rest", "where", "book", "back", "who"):
            self.assertIn((wanted, "told"), seen)
        self.assertGreater(len(seen), 16, seen)

    def word(self, ground):
        told = ground.word()
        if told is None:
            return "none"
        numbers = ground.numbers()
        many = {"let": (), "flight": told[1:2], "pair": told[1:3], "pad": told[1:2]}[told[0]]
        shown = many if told[0] == "pad" else [numbers[k] for k in many]
        return " ".join([told[0], *map(str, shown)])

    def a_row(self, rand, land, ground, book):
        """A row, and what a ground and a book by themselves answer."""
        sort = rand.choice(("fly", "fly", "fly", "winds", "home", "go", "go", "rest", "where", "book", "book", "back", "who"))
        number = rand.choice((*ground.numbers(), 0, 1, 5))
        name = rand.choice(("a", "b", "cc"))
        flight, winds = a_fair_flight(rand, land), rand.choice(((), fair_winds(rand, land)))
        x, y, beat = rand.randrange(land.wide), rand.randrange(land.high), rand.randrange(land.day)
        rooms = tuple((x, y, x, land.high - 1, beat, land.day) for k in range(rand.randrange(3)))
        blown = sorted({made[1][:2] for made in ground.fleet()})
        blown = [(*square, *rand.choice(winds_at(ground.winds(), *square, ground.beat()))) for square in blown]
        row = {
            "fly": ("fly", *show_flight_again(flight).replace("\n", " ; ").split(" ")),
            "winds": ("winds", *[show_winds_again(winds).replace("\n", " ; ")] * bool(winds)), "home": ("home", number),
            "go": ("go", *[" , ".join(" ".join(map(str, told)) for told in blown)] * bool(blown)), "rest": ("rest", number),
            "where": ("where", number), "book": ("book", name, *[" , ".join(" ".join(map(str, room)) for room in rooms)] * bool(rooms)),
            "back": ("back", name), "who": ("who", x, y, beat),
        }[sort]
        let = {True: "let", False: "not let"}
        weather = tuple(((*told[:2], ground.beat()), told[2:]) for told in blown)
        ask = {
            "fly": lambda: f"number {ground.fly(flight)}", "winds": lambda: let[ground.tell(winds)],
            "home": lambda: let[ground.call_home(number)],
            "go": lambda: "gone" + "".join(f" ; {k} {word}" for k, word in ground.go(weather)),
            "rest": lambda: ground.rest(number) or "ok", "where": lambda: "{} {} {} {}".format(*ground.flight(number)[1]),
            "book": lambda: book.book(name, rooms) or "ok", "back": lambda: book.give_back(name) or "ok",
            "who": lambda: book.who(x, y, beat) or "no one",
        }[sort]
        return " ".join(map(str, row)), ask
