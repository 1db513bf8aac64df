"""What the tests share: things spoiled, of other kinds, or held against a second telling."""

import copy
import itertools

from windfleet.errors import NoText
from windfleet.lands import Land
from windfleet.tasks import last_step

# Things of every kind that "of anything" names, none of them a land's or a flyer's.
ANYTHING = (
    None, True, False, 0, 1, -1, 10 ** 39, -(10 ** 39), "", "a", "look", "land 3 3 12\npad 0 0 1 1 2", "x" * 4000,
    (), [], {}, (None,), (True,), (0,), ("",), ((),), ([],), ({},), [()], [0], {"a": 1}, {(0, 0): 0}, {1: [2]},
    (0, 0), (0, 0, 0), (0, 0, 0, 0, 0, 0, 0), (None, None), ((), ()), ((), (), (), (), ()), ("look",), ("go",),
    tuple(range(5000)), [0] * 5000, tuple([(0, 0)] * 5000),
)


def deep(depth):
    """A tuple of a list of a tuple .. so deep."""
    thing = 0
    for level in range(depth):
        thing = (thing,) if level % 2 else [thing]
    return thing


def other_kinds(part):
    """Things of another kind to stand where part stands; the part's own kind is left out."""
    others = [None, "", "a", [], {}, [part], (part,), {"a": part}]
    if isinstance(part, tuple):
        return others + [True, 0, list(part), "".join("a" for one in part), {one: 0 for one in range(len(part))}]
    if isinstance(part, str):
        return [None, True, 0, [], (), {}, [part], (part,), part + " ", " " + part, part.upper(), part[:-1], "x"]
    return others + [True, False, str(part), ()]


def spoiled(thing, free=()):
    """The thing with one of its parts, at any depth, of another kind, or one of its tuples too short or too long.

    free are the paths of tuples that may be of several lengths; those are only made of other kinds.
    """
    return list(spoiled_at(thing, free, ()))


def spoiled_at(part, free, path):
    yield from other_kinds(part)
    if not isinstance(part, tuple):
        return
    if path not in free and part:
        yield part[:-1]
        yield part[1:]
        yield part + (part[-1],)
        yield ()
    if path not in free:
        yield part + (0,)
        yield part + (None,)
    for at, inner in enumerate(part):
        for wrong in spoiled_at(inner, free, path + (at,)):
            yield part[:at] + (wrong,) + part[at + 1:]


def replaced(thing, path, part):
    """The thing with another part at the path."""
    if not path:
        return part
    at = path[0]
    return thing[:at] + (replaced(thing[at], path[1:], part),) + thing[at + 1:]


def unchanged(test, ask, *handed, **named):
    """What asking tells; twice the same, and nothing that is handed in is changed by it."""
    before = copy.deepcopy((handed, named))
    first = ask(*handed, **named)
    second = ask(*handed, **named)
    test.assertEqual(first, second)
    test.assertEqual(repr(kept(first)), repr(kept(second)))
    test.assertEqual(before, (handed, named))
    test.assertEqual(repr(kept(before)), repr(kept((handed, named))))
    return first


def kept(thing):
    """The thing with Lands told by their fields, so that 0 and False show as unlike."""
    if isinstance(thing, (tuple, list)):
        return [kept(part) for part in thing]
    if isinstance(thing, dict):
        return [[key, kept(thing[key])] for key in thing]
    if hasattr(thing, "pads"):
        return [thing.wide, thing.high, thing.day, thing.heights, thing.barred, thing.people, thing.pads]
    return thing


def told_so(test, ask, wanted, told):
    """Checks a telling down to its kinds: True is not 1 here, a list no tuple."""
    test.assertEqual(wanted, told, ask)
    test.assertEqual(repr(wanted), repr(told), ask)


def hurt_again(land, x, y, beat, ceiling):
    """By which word a square hurts, told square by square."""
    if x not in range(land.wide) or y not in range(land.high):
        return "out"
    if land.heights is not None and land.heights[y][x] > ceiling:
        return "high"
    around = [(x + dx, y + dy) for dx in (-1, 0, 1) for dy in (-1, 0, 1)]
    if (x, y) in squares_at(land.barred, beat):
        return "barred"
    if any(square in squares_at(land.people, beat) for square in around):
        return "people"
    return None


def squares_of(box):
    return {(x, y) for x in range(box[0], box[2] + 1) for y in range(box[1], box[3] + 1)}


def squares_at(rooms, beat):
    return {square for room in rooms if beat in range(room[4], room[5] + 1) for square in squares_of(room)}


def winds_again(winds, x, y, beat):
    """The winds that may be somewhere, told square by square."""
    let = [{(0, 0)}]
    for room, (lx, hx, ly, hy) in reversed(winds):
        if (x, y) in squares_at((room,), beat):
            let.append(squares_of((lx, ly, hx, hy)))
    return sorted(let[-1])


def step_again(task, step, square, beat):
    """What a step becomes, told sort by sort."""
    if task is None:
        return 0
    sort, *parts, first, last = task
    hours = range(first, last + 1)
    if sort == "look":
        return 1 if step == 1 or (beat in hours and square in squares_of(parts[0])) else 0
    if sort == "bring":
        return step + 1 if step < 2 and beat in hours and square in squares_of(parts[step]) else step
    if step == parts[1]:
        return step
    return step + 1 if beat in hours and square in squares_of(parts[0]) else 0


def beat_again(land, flight, row, beat, state, wind, owing=False):
    """A beat, told a second time; where owing, charge below 0 breaks nothing."""
    (reach, ceiling, full, gain), start, way, task, home = flight
    x, y, step, charge = state
    pads = [number for number, pad in enumerate(land.pads) if (x, y) in squares_of(pad)]
    if row == ("stand",) and not pads:
        return None, "nopad"
    if row == ("stand",) or (row == ("home",) and home in pads):
        charge = min(full, charge + gain)
    else:
        if row[0] == "home":
            x1, y1, x2, y2, many = land.pads[home]
            row = ("aim", (x1 + x2) // 2, (y1 + y2) // 2)
        wishes = row[1:] if row[0] == "go" else (row[1] - x, row[2] - y)
        wishes = [sorted((-reach, wish, reach))[1] for wish in wishes]
        charge -= 1 + sum(abs(wish) for wish in wishes)
        charge -= sum(1 for wish, blown in zip(wishes, wind) if (wish > 0 > blown) or (wish < 0 < blown))
        charge -= task[3] if task is not None and task[0] == "bring" and step == 1 else 0
        if charge < 0 and not owing:
            return None, "empty"
        x, y = x + wishes[0] + wind[0], y + wishes[1] + wind[1]
    word = hurt_again(land, x, y, beat + 1, ceiling)
    if word is not None:
        return None, word
    return (x, y, step_again(task, step, (x, y), beat + 1), charge), None


def a_box(rand, wide, high):
    x1, x2 = sorted((rand.randrange(wide), rand.randrange(wide)))
    y1, y2 = sorted((rand.randrange(high), rand.randrange(high)))
    return x1, y1, x2, y2


def a_room(rand, wide, high, day):
    return (*a_box(rand, wide, high), *sorted((rand.randrange(day + 1), rand.randrange(day + 1))))


def a_row(rand):
    sort = rand.choice(("go", "go", "aim", "stand", "home"))
    if sort == "go":
        return sort, rand.randint(-2, 2), rand.randint(-2, 2)
    if sort == "aim":
        return sort, rand.randrange(6), rand.randrange(6)
    return (sort,)


def a_task(rand, wide, high, day):
    hours = sorted((rand.randrange(day + 1), rand.randrange(day + 1)))
    box = a_box(rand, wide, high)
    return rand.choice((
        None, ("look", box, *hours), ("bring", box, a_box(rand, wide, high), rand.randrange(5), *hours),
        ("over", box, rand.randint(1, 3), *hours),
    ))


def a_case(rand, day=4):
    """A small land, winds of it, and a flight of it, of a chance that is the same every time."""
    wide, high = rand.randint(1, 5), rand.randint(1, 5)
    heights = rand.choice((None, tuple(tuple(rand.choice((0, 0, 0, 4)) for x in range(wide)) for y in range(high))))
    barred = tuple(a_room(rand, wide, high, day) for k in range(rand.choice((0, 0, 1))))
    people = tuple(a_room(rand, wide, high, day) for k in range(rand.choice((0, 0, 0, 1))))
    pads = ((*a_box(rand, wide, high), 1),)
    if rand.random() < 0.7 and wide > 1 and high > 1:
        pads = ((0, 0, 0, high - 1, 2), (wide - 1, 0, wide - 1, 0, 1))
    land = Land(wide, high, day=day, heights=heights, barred=barred, people=people, pads=pads)
    bounds = ((0, 1, 0, 0), (-1, 0, 0, 1), (0, 0, 0, 0), (1, 1, -1, -1), (-1, 1, 0, 0))
    winds = tuple((a_room(rand, wide, high, day), rand.choice(bounds)) for k in range(rand.randrange(4)))
    task = a_task(rand, wide, high, day)
    full = rand.randint(1, 20)
    step = rand.randint(0, last_step(task))
    state = (rand.randrange(wide), rand.randrange(high), step, rand.randint(0, full))
    way = tuple(a_row(rand) for k in range(rand.randrange(day + 2)))
    flyer = (rand.randrange(3), rand.randint(2, 5), full, rand.randint(1, 9))
    return land, winds, (flyer, state, way, task, rand.randrange(len(pads)))


def a_fair_land(rand, day):
    """A land of few hurts, with two pads to come home to."""
    wide, high = rand.randint(4, 6), rand.randint(2, 4)
    barred = tuple(a_room(rand, wide, high, day) for k in range(rand.choice((0, 0, 0, 0, 1))))
    home = (0, 0, rand.randrange(2), high - 1, rand.randint(1, 4))
    return Land(wide, high, day=day, barred=barred, pads=(home, (wide - 1, 0, wide - 1, high - 1, rand.randint(1, 2))))


def fair_winds(rand, land):
    """Winds that leave many flights of a fair land let by: none of them lead out from where a flyer rests."""
    along = ((0, 1, 0, 0), (-1, 0, 0, 0), (-1, 1, 0, 0), (1, 1, 0, 0), (-1, -1, 0, 0))
    rows = []
    for k in range(rand.randrange(1, 4)):
        x1, y1, x2, y2, first, last = a_room(rand, land.wide, land.high, land.day)
        if rand.random() < 0.7:
            rows.append(((1, y1, land.wide - 2, y2, min(first, 1), last), rand.choice(along)))
        else:
            rows.append(((x1, 0, x2, land.high - 2, first, last), (0, 0, 0, 1)))
    return tuple(rows)


def a_fair_flight(rand, land):
    """A flight of a fair land that is let by rather often."""
    task = a_task(rand, land.wide, land.high, land.day)
    full = rand.randint(8, 30)
    state = (rand.randrange(land.wide), rand.randrange(land.high), rand.randint(0, last_step(task)), rand.randint(6, full))
    rows = (("go", 0, 0), ("go", 1, 0), ("go", -1, 0), ("aim", 2, 1), ("aim", 3, 0), ("home",))
    way = tuple(rand.choice(rows) for k in range(rand.randrange(1, land.day + 1)))
    if rand.random() < 0.3:
        way = (("stand",),) * rand.randrange(1, 3) + way[:-1]
    return (rand.choice((1, 2, 2)), 9, full, rand.randint(1, 9)), state, way, task, rand.randrange(2)


def runs_again(land, winds, flight, since, turn=None):
    """All (run, states, word) of a flight with the turn, one by one, told a second time."""
    word = hurt_again(land, flight[1][0], flight[1][1], since, flight[0][1])
    yield from runs_on(land, winds, flight, since, turn, (), (flight[1],), word)


def runs_on(land, winds, flight, since, turn, run, states, word):
    beat = since + len(run)
    x, y, step, charge = states[-1]
    if word is not None or beat == land.day:
        home = (x, y) in squares_of(land.pads[flight[4]])
        yield run, states, word if word is not None or home else "late"
        return
    yield run, states, None
    turned = turn is not None and beat >= turn
    row = ("home",) if turned or len(run) >= len(flight[2]) else flight[2][len(run)]
    for wind in winds_again(winds, x, y, beat):
        come, broken = beat_again(land, flight, row, beat, states[-1], wind)
        behind = states if come is None else states + (come,)
        yield from runs_on(land, winds, flight, since, turn, run + (wind,), behind, broken)


def is_let_again(land, winds, flight, since):
    """Whether no run breaks, or is late, whatever its turn, all gone through one by one."""
    turns = range(since, land.day + 1)
    return all(told[2] is None for turn in turns for told in runs_again(land, winds, flight, since, turn))


def near_again(land, pair, apart):
    """Whether two squares are near, told a second time."""
    one, other = pair
    pads = {square for pad in land.pads for square in squares_of(pad)}
    around = {(one[0] + dx, one[1] + dy) for dx in range(1 - apart, apart) for dy in range(1 - apart, apart)}
    return other in around and not {one, other} & pads


def midway_again(land, ahead, behind, apart):
    """Whether two flyers are near midway, told a second time, on a land twice as fine."""
    pads = {square for pad in land.pads for square in squares_of(pad)}
    if pads & {*ahead, *behind}:
        return False
    (x, y), (u, v) = [(now[0] + then[0], now[1] + then[1]) for now, then in zip(ahead, behind)]
    return x - u in range(1 - 2 * apart, 2 * apart) and y - v in range(1 - 2 * apart, 2 * apart)


def do_come_near_again(land, apart, told, other):
    """Whether two unbroken runs, each (run, states), as long as one another, come near at their end."""
    pairs = [(state[:2], met[:2]) for state, met in zip(told[1], other[1])]
    for (one, two), wind, blown in zip(pairs, told[0], other[0]):
        if one == two and wind != blown:
            return False
    if near_again(land, pairs[-1], apart):
        return True
    return len(pairs) > 1 and midway_again(land, pairs[-2], pairs[-1], apart)


def unbroken_again(land, winds, flight, since):
    """All (run, states) without a turn that don't break, by their lengths."""
    told = {length: [] for length in range(land.day - since + 1)}
    for run, states, word in runs_again(land, winds, flight, since):
        if word in (None, "late"):
            told[len(run)].append((run, states))
    return told


def all_nears_again(land, winds, one, other, since, apart):
    """All (run, other run) by which two flights come near, all pairs of runs gone through one by one."""
    told, beyond = unbroken_again(land, winds, one, since), unbroken_again(land, winds, other, since)
    return [
        (run[0], met[0]) for length in told for run in told[length] for met in beyond[length]
        if do_come_near_again(land, apart, run, met)
    ]


def a_task_on_the_way(rand, land, winds, flight, since):
    """A task of a place to which some run of the flight comes, and perhaps not each."""
    run, states, word = rand.choice([told for told in runs_again(land, winds, flight, since) if told[2] is None])
    at, behind = sorted((rand.randrange(len(states)), rand.randrange(len(states))))
    box = states[at][:2] * 2
    first, last = max(since + at - rand.randrange(2), 0), min(since + behind + rand.randrange(2), land.day)
    return rand.choice((
        ("look", box, first, last), ("bring", box, states[behind][:2] * 2, rand.randrange(3), first, last),
        ("over", box, rand.randint(1, 2), first, last),
    ))


def a_tasked_case(rand, judge):
    """A fair land, winds, a flight with a task, let by as judge tells, and since; None where chance brings none."""
    land = a_fair_land(rand, rand.randint(2, 5))
    winds = fair_winds(rand, land)
    since = rand.choice((0, 0, 0, 0, 1, land.day))
    flyer, state, way, task, home = a_fair_flight(rand, land)
    made = (flyer, (*state[:2], 0, state[3]), way, None, home)
    if judge(land, winds, made, since)[0] != "let":
        return None
    task = a_task_on_the_way(rand, land, winds, made, since)
    made = (flyer, (*state[:2], 0 if rand.random() < 0.8 else 1, state[3]), way, task, home)
    if judge(land, winds, made, since)[0] != "let":
        return None
    return land, winds, made, since


def does_stand_again(land, flight, since, pad, run, states, word):
    """Whether a run leads to a stand on the pad at a beat below day, told a second time."""
    at = len(run)
    stands = since + at < land.day and at < len(flight[2]) and flight[2][at] == ("stand",)
    return word is None and stands and states[-1][:2] in squares_of(land.pads[pad])


def users_again(land, winds, fleet, since):
    """For each pad the numbers of the flights that use it, all runs gone through one by one."""
    users = []
    for number, pad in enumerate(land.pads):
        users.append([
            k for k, flight in enumerate(fleet) if flight[4] == number or any(
                does_stand_again(land, flight, since, number, *told) for told in runs_again(land, winds, flight, since))
        ])
    return users


def fault_again(land, winds, fleet, since, apart):
    """The first fault of a fleet, by its word and numbers, told by all runs gone through one by one; or None."""
    for k, flight in enumerate(fleet):
        if not is_let_again(land, winds, flight, since):
            return "flight", k
    for j, one in enumerate(fleet):
        for k, other in enumerate(fleet):
            if j < k and all_nears_again(land, winds, one, other, since, apart):
                return "pair", j, k
    for number, users in enumerate(users_again(land, winds, fleet, since)):
        if len(users) > land.pads[number][4]:
            return "pad", number
    return None


def a_fair_fleet(rand, judge, most=4):
    """A fair land, winds, one to four flights, most of them let by, and since."""
    land = a_fair_land(rand, rand.randint(2, 4))
    winds = fair_winds(rand, land)
    since = rand.choice((0, 0, 0, 0, 1, land.day))
    fleet = [a_fair_flight(rand, land) for k in range(10)]
    if rand.random() < 0.9:
        fleet = [made for made in fleet if judge(land, winds, made, since)[0] == "let"] or fleet
    return land, winds, tuple(fleet[:rand.randint(1, most)]), since


def hearings(news):
    """All tuples of which words are heard, False where there is none."""
    return list(itertools.product(*[(False,) if way is None else (False, True) for way in news]))


def heard_again(fleet, news, heard):
    """The fleet where just those words are heard."""
    return tuple((*made[:2], way, *made[3:]) if hears else made for made, way, hears in zip(fleet, news, heard))


def fair_news(rand, fleet, land):
    """News of a fleet: ways of other flights of the land, or no word."""
    return tuple(rand.choice((None, a_fair_flight(rand, land)[2], (), made[2][1:], made[2])) for made in fleet)


def bent(rand, paper, more):
    """The paper with one of its layers, by chance, less a part, with one part more, or as it was."""
    at = rand.randrange(len(paper))
    layer = paper[at]
    sort = rand.randrange(3)
    if sort == 0 and layer:
        gone = rand.randrange(len(layer))
        return replaced(paper, (at,), layer[:gone] + layer[gone + 1:])
    if sort == 1:
        return replaced(paper, (at,), tuple(sorted(layer + (more,))))
    return paper


def the_greatest_fleet():
    """A land, winds, and a fleet of four, let by, as great as is promised of fleets."""
    land = Land(6, 6, day=12, pads=((0, 0, 5, 0, 2), (0, 5, 5, 5, 2)))
    winds = (((0, 0, 1, 5, 0, 12), (0, 2, 0, 0)), ((4, 0, 5, 5, 0, 12), (-2, 0, 0, 0)), ((2, 0, 3, 5, 0, 12), (-1, 1, 0, 0)))
    low = ((2, 9, 99, 9), (2, 0, 0, 99), (("go", 0, 1),) + (("go", 0, 0),) * 6, None, 0)
    high = ((2, 9, 99, 9), (2, 5, 0, 99), (("go", 0, -1),) + (("go", 0, 0),) * 6, None, 1)
    resting = tuple((made[0], made[1], (("stand",),) * 12, None, made[4]) for made in (low, high))
    return land, winds, (low, high) + resting


def is_sure_again(land, winds, flight, since):
    """Whether each run to day that doesn't break ends at the task's last step, all gone through one by one."""
    return not missing_again(land, winds, flight, since)


def missing_again(land, winds, flight, since):
    """All runs to day, without a turn, that don't break and don't end at the task's last step."""
    whole = unbroken_again(land, winds, flight, since)[land.day - since]
    return [run for run, states in whole if states[-1][2] != last_step(flight[3])]


def goods_again(land, winds, menus, since, apart, surely):
    """All good choices of menus, rising, all runs gone through one by one."""
    lets, nears, uses = {}, {}, {}
    for k, menu in enumerate(menus):
        for n, made in enumerate(menu):
            lets[k, n] = is_let_again(land, winds, made, since)
            if surely and lets[k, n] and made[3] is not None:
                lets[k, n] = is_sure_again(land, winds, made, since)
            uses[k, n] = [pad for pad, users in enumerate(users_again(land, winds, (made,), since)) if users]
    for (j, m), (k, n) in itertools.combinations(lets, 2):
        if j != k and lets[j, m] and lets[k, n]:
            nears[j, m, k, n] = bool(all_nears_again(land, winds, menus[j][m], menus[k][n], since, apart))
    goods = []
    for choice in itertools.product(*[range(len(menu)) for menu in menus]):
        places = list(enumerate(choice))
        if not all(lets[place] for place in places):
            continue
        if any(nears[one + other] for one, other in itertools.combinations(places, 2)):
            continue
        used = [pad for place in places for pad in uses[place]]
        if all(used.count(number) <= pad[4] for number, pad in enumerate(land.pads)):
            goods.append(choice)
    return goods


def fair_menus(rand, judge):
    """A fair land, winds, menus of one to four flyers with one to three flights each, and since."""
    land = a_fair_land(rand, rand.randint(2, 4))
    winds = fair_winds(rand, land)
    since = rand.choice((0, 0, 0, 0, 1, land.day))
    made = [a_fair_flight(rand, land) for k in range(12)]
    good = [flight for flight in made if judge(land, winds, flight, since)[0] == "let"]
    if good and rand.random() < 0.9:
        made = good + made[:rand.randrange(3)]
    for at, flight in enumerate(made):
        if flight in good and rand.random() < 0.4:
            free = (*flight[:1], (*flight[1][:2], 0, flight[1][3]), flight[2], None, flight[4])
            made[at] = free
            if judge(land, winds, free, since)[0] == "let" and rand.random() < 0.8:
                made[at] = (*free[:3], a_task_on_the_way(rand, land, winds, free, since), free[4])
    menus = [tuple(rand.choice(made) for n in range(rand.randint(1, 3))) for k in range(rand.randint(1, 4))]
    return land, winds, tuple(menus), since


def all_choices(menus):
    """All choices of the menus, rising."""
    return tuple(itertools.product(*[range(len(menu)) for menu in menus]))


def is_bar_again(land, winds, menus, since, bar, apart, surely):
    """Whether a bar of the right shape, its places those of the menus, is so, all runs gone through one by one."""
    sort, *parts = bar
    if sort == "flight":
        k, n, turn, run = parts
        return run in [told[0] for told in runs_again(land, winds, menus[k][n], since, turn) if told[2] is not None]
    if sort == "task":
        k, n, run = parts
        made = menus[k][n]
        return surely and made[3] is not None and run in missing_again(land, winds, made, since)
    if sort == "pair":
        j, m, k, n, run, other = parts
        return j < k and (run, other) in all_nears_again(land, winds, menus[j][m], menus[k][n], since, apart)
    number, rows = parts
    users = [k for k, n, run in rows]
    if users != sorted(set(users)) or len(users) <= land.pads[number][4]:
        return False
    for k, n, run in rows:
        made = menus[k][n]
        stands = [told[0] for told in runs_again(land, winds, made, since) if does_stand_again(land, made, since, number, *told)]
        if run not in ([()] if made[4] == number else stands):
            return False
    return True


def does_bar_again(bar, choice):
    """Whether a bar names places of the choice alone."""
    sort, *parts = bar
    named = [row[:2] for row in parts[1]] if sort == "pad" else [tuple(parts[:2])]
    if sort == "pair":
        named.append(tuple(parts[2:4]))
    return set(named) <= set(enumerate(choice))


def show_land_again(land):
    """A land's text, told a second time."""
    lines = [f"land {land.wide} {land.high} {land.day}"]
    for row in land.heights or ():
        lines.append("row " + "".join(map(str, row)))
    for sort, rows in (("barred", land.barred), ("people", land.people), ("pad", land.pads)):
        lines += [" ".join([sort, *map(str, row)]) for row in rows]
    return "\n".join(lines)


def show_winds_again(winds):
    """Winds' text, told a second time."""
    return "\n".join("wind " + " ".join(map(str, room + let)) for room, let in winds)


def show_flight_again(flight):
    """A flight's text, told a second time."""
    flyer, state, way, task, home = flight
    told = "none"
    if task is not None:
        told = " ".join(str(part) if not isinstance(part, tuple) else "{} {} {} {}".format(*part) for part in task)
    lines = ["flyer {} {} {} {}".format(*flyer), "at {} {} {} {}".format(*state), f"task {told}", f"to {home}"]
    return "\n".join(lines + [" ".join(map(str, row)) for row in way])


def refused_at_again(text, is_text, endings):
    """The line at which a text is refused, or None: by whether lines, with one of the endings, are a text."""
    lines = text.split("\n")
    for at in range(len(lines)):
        if not any(is_text("\n".join(lines[:at + 1] + ending)) for ending in endings(lines[:at + 1])):
            return at
    return None if is_text(text) else len(lines)


def garbled(rand, text):
    """The text with a sign or a line, by chance, gone, twice, or another one; or as it is."""
    lines = text.split("\n")
    at = rand.randrange(len(lines))
    sort = rand.randrange(9)
    words = lines[at].split(" ")
    if sort == 0:
        del lines[at]
    elif sort == 1:
        lines.insert(at, rand.choice(lines))
    elif sort == 2:
        lines[at:at + 2] = lines[at:at + 2][::-1]
    elif sort == 3:
        words[rand.randrange(len(words))] = rand.choice(("0", "1", "-1", "5", "12", "13", "24", "00", "-0", "+1", "", "x", ","))
        lines[at] = " ".join(words)
    elif sort == 4:
        del words[rand.randrange(len(words))]
        lines[at] = " ".join(words)
    elif sort == 5:
        words.insert(rand.randrange(len(words) + 1), rand.choice(("0", "1", "")))
        lines[at] = " ".join(words)
    elif sort == 6:
        sign = rand.randrange(len(lines[at]) + 1)
        lines[at] = lines[at][:sign] + rand.choice(" 019-aZ;\t~") + lines[at][sign + rand.randrange(2):]
    elif sort == 7:
        return "\n".join(lines[:at])
    return "\n".join(lines)


def no_text_at(test, read, *handed):
    """The line at which something is refused, twice the same, nothing handed in changed."""
    before = copy.deepcopy(handed)
    told = []
    for again in range(2):
        with test.assertRaises(NoText, msg=handed) as caught:
            read(*handed)
        test.assertIs(NoText, type(caught.exception))
        told.append(repr(caught.exception.at))
    test.assertEqual(told[0], told[1])
    test.assertEqual(repr(kept(before)), repr(kept(handed)))
    return caught.exception.at
