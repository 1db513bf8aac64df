"""What the tests share: things spoiled, of other kinds, or held against a second telling."""

import copy

# Things of every kind that "of anything" names, none of them a land's or a flyer's.
ANYTHING = (
    None, True, False, 0, 1, -1, 10 ** 39, -(10 ** 39), "", "a", "look", "land 3 3 12\npad 0 0 1 1 2", "x" * 4000,
    (), [], {}, (None,), (True,), (0,), ("",), ((),), ([],), ({},), [()], [0], {"a": 1}, {(0, 0): 0}, {1: [2]},
    (0, 0), (0, 0, 0), (0, 0, 0, 0, 0, 0, 0), (None, None), ((), ()), ((), (), (), (), ()), ("look",), ("go",),
    tuple(range(5000)), [0] * 5000, tuple([(0, 0)] * 5000),
)


def deep(depth):
    """A tuple of a list of a tuple .. so deep."""
    thing = 0
    for level in range(depth):
        thing = (thing,) if level % 2 else [thing]
    return thing


def other_kinds(part):
    """Things of another kind to stand where part stands; the part's own kind is left out."""
    others = [None, "", "a", [], {}, [part], (part,), {"a": part}]
    if isinstance(part, tuple):
        return others + [True, 0, list(part), "".join("a" for one in part), {one: 0 for one in range(len(part))}]
    if isinstance(part, str):
        return [None, True, 0, [], (), {}, [part], (part,), part + " ", " " + part, part.upper(), part[:-1], "x"]
    return others + [True, False, str(part), ()]


def spoiled(thing, free=()):
    """The thing with one of its parts, at any depth, of another kind, or one of its tuples too short or too long.

    free are the paths of tuples that may be of several lengths; those are only made of other kinds.
    """
    return list(spoiled_at(thing, free, ()))


def spoiled_at(part, free, path):
    yield from other_kinds(part)
    if not isinstance(part, tuple):
        return
    if path not in free:
        yield part[:-1]
        yield part[1:]
        yield part + (part[-1],)
        yield part + (0,)
        yield part + (None,)
        yield ()
    for at, inner in enumerate(part):
        for wrong in spoiled_at(inner, free, path + (at,)):
            yield part[:at] + (wrong,) + part[at + 1:]


def replaced(thing, path, part):
    """The thing with another part at the path."""
    if not path:
        return part
    at = path[0]
    return thing[:at] + (replaced(thing[at], path[1:], part),) + thing[at + 1:]


def unchanged(test, ask, *handed, **named):
    """What asking tells; twice the same, and nothing that is handed in is changed by it."""
    before = copy.deepcopy((handed, named))
    first = ask(*handed, **named)
    second = ask(*handed, **named)
    test.assertEqual(first, second)
    test.assertEqual(repr(kept(first)), repr(kept(second)))
    test.assertEqual(before, (handed, named))
    test.assertEqual(repr(kept(before)), repr(kept((handed, named))))
    return first


def kept(thing):
    """The thing with Lands told by their fields, so that 0 and False show as unlike."""
    if isinstance(thing, (tuple, list)):
        return [kept(part) for part in thing]
    if isinstance(thing, dict):
        return [[key, kept(thing[key])] for key in thing]
    if hasattr(thing, "pads"):
        return [thing.wide, thing.high, thing.day, thing.heights, thing.barred, thing.people, thing.pads]
    return thing


def told_so(test, ask, wanted, told):
    """Checks a telling down to its kinds: True is not 1 here, a list no tuple."""
    test.assertEqual(wanted, told, ask)
    test.assertEqual(repr(wanted), repr(told), ask)
