"""A ground room told a second time, with dicts of its own, deed by deed."""

import copy

from tests.helping import beat_again, heard_again, squares_of, winds_again
from windfleet.fleets import fleet_told
from windfleet.flyers import is_flight, is_flyer, is_way
from windfleet.news import news_told
from windfleet.tasks import is_task
from windfleet.winds import is_weather, is_winds


class Refusal(Exception):
    def __init__(self, name, told=None):
        self.name = name
        self.told = told


class GroundAgain:
    def __init__(self, land, winds=(), apart=1):
        self.land, self.winds, self.apart = land, winds, apart
        self.beat, self.coming, self.air, self.story = 0, 0, {}, []

    def all_told(self):
        fleet = tuple(self.air.values())
        word = self.told(fleet) if fleet else None
        return (self.beat, self.winds, tuple(self.air), fleet, word, tuple(self.story), len(fleet))

    def told(self, fleet):
        return fleet_told(self.land, self.winds, fleet, self.beat, apart=self.apart)

    def is_let(self):
        return not self.air or self.told(tuple(self.air.values()))[0] == "let"

    def not_over(self):
        if self.beat >= self.land.day:
            raise Refusal("Over")

    def number(self, number):
        if type(number) is not int or number not in self.air:
            raise Refusal("NoNumber", number)
        return self.air[number]

    def fly(self, flight):
        self.not_over()
        if not is_flight(self.land, flight):
            raise Refusal("NoFlight")
        if len(self.air) > 3:
            raise Refusal("Full")
        told = self.told((*self.air.values(), flight))
        if told[0] != "let":
            raise Refusal("NotLet", told)
        self.air[self.coming] = flight
        self.coming += 1
        return self.coming - 1

    def tell(self, winds):
        if not is_winds(self.land, winds):
            raise Refusal("NoWinds")
        self.winds = winds
        return self.is_let()

    def send(self, news, heard):
        self.not_over()
        many = len(self.air)
        if type(news) is not tuple or len(news) != many or not all(way is None or is_way(way) for way in news):
            raise Refusal("NoNews")
        if type(heard) is not tuple or [type(truth) for truth in heard] != [bool] * many:
            raise Refusal("NoNews")
        fleet = tuple(self.air.values())
        if fleet and self.is_let():
            told = news_told(self.land, self.winds, fleet, news, self.beat, apart=self.apart)
            if told[0] == "lost":
                raise Refusal("NotLet", told[1:])
        elif fleet:
            every = tuple(way is not None for way in news)
            told = self.told(heard_again(fleet, news, every))
            if told[0] != "let":
                raise Refusal("NotLet", (every, told))
        for number, way, hears in zip(list(self.air), news, heard):
            if hears and way is not None:
                self.put(number, way=way)

    def put(self, number, **parts):
        names = ("flyer", "state", "way", "task", "home")
        self.air[number] = tuple(parts.get(name, old) for name, old in zip(names, self.air[number]))

    def call_home(self, number):
        self.not_over()
        self.number(number)
        self.put(number, way=())
        return self.is_let()

    def weaken(self, number, flyer):
        self.not_over()
        x, y, step, charge = self.number(number)[1]
        if not is_flyer(flyer):
            raise Refusal("NoFlyer")
        self.put(number, flyer=flyer, state=(x, y, step, charge if charge < flyer[2] else flyer[2]))
        return self.is_let()

    def give(self, number, task):
        self.not_over()
        x, y, step, charge = self.number(number)[1]
        if task is not None and not is_task(self.land, task):
            raise Refusal("NoTask")
        self.put(number, task=task, state=(x, y, 0, charge))
        return self.is_let()

    def rest(self, number):
        flyer, state, way, task, home = self.number(number)
        if way or state[:2] not in squares_of(self.land.pads[home]):
            raise Refusal("NotHome", number)
        self.air.pop(number)

    def go(self, weather):
        self.not_over()
        if not is_weather(self.land, self.winds, weather):
            raise Refusal("NoWeather")
        told, broken = dict(weather), []
        self.story.append(())
        for number, flight in list(self.air.items()):
            x, y = square = flight[1][:2]
            wind = told.get((x, y, self.beat), winds_again(self.winds, x, y, self.beat)[0])
            row = flight[2][0] if flight[2] else ("home",)
            state, word = beat_again(self.land, flight, row, self.beat, flight[1], wind)
            self.story[-1] += ((number, square, wind, state and state[:2]),)
            if word is None:
                self.put(number, state=state, way=flight[2][1:])
            else:
                broken.append((number, word))
                self.air.pop(number)
        self.beat += 1
        return tuple(broken)

    def together(self, deeds):
        before = copy.copy(self.__dict__)
        before.update(air=dict(self.air), story=list(self.story))
        told = []
        for at, (word, *things) in enumerate(deeds):
            try:
                told.append(getattr(self, word)(*things))
            except Refusal as refusal:
                self.__dict__.update(before)
                raise Refusal("Undone", (at, refusal.name, refusal.told)) from None
        return tuple(told)
