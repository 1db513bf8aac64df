import importlib
import inspect
import random
import unittest

from tests.helping import a_fair_flight, a_fair_land, fair_menus, fair_news, fair_winds, show_flight_again, show_land_again, show_winds_again
from windfleet.bars import bars_hold
from windfleet.books import Book
from windfleet.corridors import corridor, grown
from windfleet.errors import Clash, FleetError, NotLet
from windfleet.findings import finding_holds
from windfleet.flighttexts import read_flight
from windfleet.grounds import Ground
from windfleet.judging import judged
from windfleet.lands import Land
from windfleet.landtexts import read_land
from windfleet.mending import mended
from windfleet.pairs import paired
from windfleet.seeking import sought
from windfleet.winds import winds_at
from windfleet.windtexts import read_winds

# As the document's interface lists them.
FUNCTIONS = """
lands: is_box(land, thing); is_room(land, thing)
winds: is_winds(land, thing); winds_at(winds, x, y, beat); is_weather(land, winds, thing); wind_by(winds, weather, x, y, beat)
tasks: is_task(land, thing); last_step(task); step_by(task, step, x, y, beat); load_of(task, step)
flyers: is_flyer(thing); is_way(thing); is_flight(land, thing)
beats: row_at(flight, since, beat, *, turn=None); wish_of(land, flight, row, x, y); beat_done(land, flight, row, beat, state, wind)
runs: walked(land, winds, flight, since, thing, *, turn=None)
weathers: weather_of(land, winds, flight, since, run, *, turn=None); flown(land, winds, flight, since, weather, *, turn=None)
reach: reached(land, winds, flight, since); led(land, winds, flight, since, beat, x, y, step)
judging: judged(land, winds, flight, since)
lets: let_holds(land, winds, flight, since, thing); break_holds(land, winds, flight, since, thing)
pairs: paired(land, winds, one, other, since, *, apart=1)
nears: apart_holds(land, winds, one, other, since, thing, *, apart=1); near_holds(land, winds, one, other, since, thing, *, apart=1)
tasking: tasked(land, winds, flight, since)
taskchecks: task_holds(land, winds, flight, since, thing)
fleets: fleet_told(land, winds, fleet, since, *, apart=1)
fleetchecks: fleet_holds(land, winds, fleet, since, thing, *, apart=1); breach_holds(land, winds, fleet, since, thing, *, apart=1)
news: is_news(fleet, thing); news_told(land, winds, fleet, news, since, *, apart=1)
newschecks: news_hold(land, winds, fleet, news, since, thing, *, apart=1); lost_holds(land, winds, fleet, news, since, thing, *, apart=1)
seeking: sought(land, winds, menus, since, *, apart=1, surely=False)
mending: mended(land, winds, menus, now, since, *, apart=1, surely=False)
bars: bars_hold(land, winds, menus, choices, since, thing, *, apart=1, surely=False)
corridors: corridor(land, winds, flight, since); grown(land, rooms, by); do_clash(one, other)
landtexts: show_land(land); read_land(text)
windtexts: show_winds(winds); read_winds(land, text)
flighttexts: show_flight(flight); read_flight(land, text)
findings: finding_holds(thing)
"""
METHODS = """
lands Land: __init__(self, wide, high, *, day=12, heights=None, barred=(), people=(), pads=()); __len__(self); __eq__(self, other)
lands Land: pad_at(self, x, y); hurts(self, x, y, beat, ceiling)
books Book: __init__(self, land); book(self, name, rooms); give_back(self, name); swap(self, name, other); names(self)
books Book: rooms(self, name); who(self, x, y, beat); __len__(self); __eq__(self, other)
grounds Ground: __init__(self, land, *, winds=(), apart=1); fly(self, flight); tell(self, winds); send(self, news, heard)
grounds Ground: call_home(self, number); weaken(self, number, flyer); give(self, number, task); rest(self, number); go(self, weather)
grounds Ground: together(self, deeds, *, look=None); beat(self); winds(self); numbers(self); flight(self, number); fleet(self)
grounds Ground: word(self); story(self); busy(self); log(self); __len__(self); __eq__(self, other)
desk Desk: __init__(self); say(self, row)
"""


def listed(text):
    for line in text.strip().splitlines():
        where, names = line.split(": ", 1)
        for told in names.split("; "):
            yield where, told.split("(")[0], told[told.index("("):]


class Interface(unittest.TestCase):
    def test_functions(self):
        for module, name, arguments in listed(FUNCTIONS):
            made = getattr(importlib.import_module("windfleet." + module), name)
            self.assertEqual((made.__module__, arguments), ("windfleet." + module, str(inspect.signature(made))), name)

    def test_methods_stand_in_the_class_itself(self):
        for where, name, arguments in listed(METHODS):
            module, owner = where.split(" ")
            made = vars(getattr(importlib.import_module("windfleet." + module), owner))[name]
            self.assertEqual(arguments, str(inspect.signature(made)), (where, name))

    def test_bounds(self):
        bounds = importlib.import_module("windfleet.bounds")
        self.assertEqual("(12, 1)", repr((bounds.DAY, bounds.APART)))


def a_weather(rand, ground):
    """A weather of all that are in the air, of winds by chance."""
    rows = []
    for x, y in sorted({made[1][:2] for made in ground.fleet()}):
        rows.append(((x, y, ground.beat()), rand.choice(winds_at(ground.winds(), x, y, ground.beat()))))
    return tuple(rows)


class Promise(unittest.TestCase):
    def day_goes_by(self, rand, ground, land):
        """Whatever the winds, a fleet that is let by stays so, none breaks or is late, no two come near."""
        while ground.beat() < land.day:
            self.assertEqual((), ground.go(a_weather(rand, ground)))
            self.assertIn(ground.word() and ground.word()[0], ("let", None))
            self.none_near(ground, land)
        for number in ground.numbers():
            flight = ground.flight(number)
            self.assertEqual(flight[4], land.pad_at(*flight[1][:2]))

    def none_near(self, ground, land):
        moves = [(row[1], row[3]) for row in ground.story()[-1]]
        for at, (ahead, behind) in enumerate(moves):
            for other, beyond in moves[:at]:
                on_pads = [land.pad_at(*square) is not None for square in (ahead, behind, other, beyond)]
                self.assertTrue(behind != beyond or on_pads[1])
                if not any(on_pads):
                    gaps = [abs(ahead[axis] + behind[axis] - other[axis] - beyond[axis]) for axis in (0, 1)]
                    self.assertGreaterEqual(max(gaps), 2)

    def test_a_day_lived_through(self):
        flights = news = 0
        for number in range(300):
            rand = random.Random(number)
            land = a_fair_land(rand, rand.randint(3, 7))
            ground = Ground(land, winds=fair_winds(rand, land))
            while ground.beat() < land.day - 1:
                for k in range(3):
                    try:
                        ground.fly(a_fair_flight(rand, land))
                        flights += 1
                    except FleetError:
                        pass
                told = fair_news(rand, ground.fleet(), land)
                try:
                    ground.send(told, tuple(rand.random() < 0.5 for way in told))
                    news += len(told)
                except NotLet as refusal:
                    self.assertEqual(len(told), len(refusal.told[0]))
                if ground.numbers() and rand.random() < 0.3:
                    self.assertIs(True, ground.give(rand.choice(ground.numbers()), None))
                self.assertEqual((), ground.go(a_weather(rand, ground)))
                self.assertIn(ground.word() and ground.word()[0], ("let", None))
                self.none_near(ground, land)
            self.day_goes_by(rand, ground, land)
        self.assertGreater(flights, 100)
        self.assertGreater(news, 50)

    def test_choices_sought_and_mended_are_flown(self):
        many = 0
        for number in range(150):
            rand = random.Random(number)
            land, winds, menus, since = fair_menus(rand, judged)
            now = tuple(rand.randrange(len(menu)) for menu in menus)
            found, changed = sought(land, winds, menus, since), mended(land, winds, menus, now, since)
            self.assertEqual(found[0], changed[0])
            if found[0] == "none":
                for bars in (found[1], changed[1]):
                    self.assertIs(True, bars_hold(land, winds, menus, (now,), since, bars))
                continue
            self.assertLessEqual(found[1], changed[1])
            for choice in (found[1], changed[1]):
                ground = Ground(land, winds=winds)
                for beat in range(since):
                    ground.go(())
                if since < land.day:
                    for menu, place in zip(menus, choice):
                        ground.fly(menu[place])
                    self.day_goes_by(rand, ground, land)
                    many += 1
        self.assertGreater(many, 60)

    def test_flights_within_booked_rooms_are_apart(self):
        many = 0
        for number in range(200):
            rand = random.Random(number)
            land = Land(6, 6, day=5, pads=((0, 0, 0, 5, 4), (5, 0, 5, 5, 4)))
            winds, apart = fair_winds(rand, land), rand.choice((1, 2, 3))
            book, booked = Book(land), {}
            for name in "abcdefgh":
                made = a_fair_flight(rand, land)
                if judged(land, winds, made, 0)[0] == "let":
                    try:
                        book.book(name, grown(land, corridor(land, winds, made, 0), apart - 1))
                    except Clash:
                        continue
                    booked[name] = made
            for name, made in booked.items():
                for other in booked:
                    if other != name:
                        self.assertEqual("apart", paired(land, winds, made, booked[other], 0, apart=apart)[0])
                        many += 1
                ground = Ground(land, winds=winds)
                ground.fly(made)
                for beat in range(5):
                    self.assertEqual(name, book.who(*ground.flight(0)[1][:2], beat))
                    ground.go(a_weather(rand, ground))
                    self.assertEqual(name, book.who(*ground.flight(0)[1][:2], beat + 1))
        self.assertGreater(many, 20)

    def test_what_was_told_goes_by_texts(self):
        for number in range(150):
            rand = random.Random(number)
            land = a_fair_land(rand, 4)
            winds, made = fair_winds(rand, land), a_fair_flight(rand, land)
            texts = (show_land_again(land), show_winds_again(winds), show_flight_again(made))
            read = read_land(texts[0])
            again = (read, read_winds(read, texts[1]), read_flight(read, texts[2]))
            self.assertEqual((land, winds, made), again)
            word, *parts = judged(*again, 0)
            self.assertIs(True, finding_holds((word, *texts, 0, *parts)))
