"""Values for the tests: odd ones of every kind, and all that differs from a right one in one part."""

from freshtold.desk import Desk
from freshtold.errors import NoCommand, NotSound, StoreError, Wrong
from freshtold.stores import Store
from freshtold.watch import Watch

LONG_TEXT = "".join(chr(32 + at % 95) for at in range(2999)) + "\n"


def nested(depth):
    """Lists, tuples and dicts in one another, so deep."""
    thing = 0
    for level in range(depth):
        thing = ([thing], (thing,), {level: thing})[level % 3]
    return thing


def short_odd_values():
    """A few values of every kind, to stand in the place of a part."""
    return [None, True, False, 0, 1, 2, 3, 4, 5, 6, 7, 8, -1, -2, 10 ** 39, -10 ** 39, "", "0", "1", "tell", "ask",
            "new", "known", "clash", "open", "never", "-", (), [], {}, (0,), [0], (0, 0), (0, 1), (1, 0), (True,),
            (False, 0), (None,), {0: 0}, {0: 1, 1: 0}, StoreError(), Wrong(0), Store((2, 0))]


def odd_values():
    """Values of every kind that [4] calls any value; new ones each time."""
    return short_odd_values() + [
        12, 10 ** 9, -10 ** 12, " ", "tell ", "Ask", "NEW", "None", "house 2 1", LONG_TEXT,
        ["tell", (0,), 0], ["ask", (0,)], ("tell", (), 0), ("ask", ()), ("ask", [0]), ("tell", (0,), "0"), {"ask": 0},
        (2, 0), (2, 1), (2, 2), (3, 1), (4, 1), (7, 8), (2, 100), [2, 1], (2, 1, 0), (2, True), (2, -1), {2: 1},
        ((2, 0), ()), ((2, 1), ()), ((2, 1), []), [(2, 1), ()], ((2, 1), {}), ((2, 1), (None,)), ((2, 1), ((),)),
        ((2, 1), ((("ask", (0,)), 0, 0, 1),)), ((2, 1), ((("ask", (0,)), 0, 0),)), ((), ()), ((0,), 0), ([0], 0),
        (0, (0,)), (0, (1,)), (0, (1, 2)), (0, ()), (0, [1]), (1, (0, 1)), (0, 1, 2), (0, 2, 1), (0, 0, 1), [0, 1, 2],
        tuple(range(1000)), list(range(1000)), (0,) * 2900, [[0, 1]] * 900, {at: (at, None) for at in range(700)},
        nested(20), [nested(18), nested(17)], NoCommand(), NotSound([{}, (None,)]), [StoreError()], {"at": Wrong(None)},
        Store((2, 1)), (Store((3, 2)), ()), {"store": Store((7, 8))}, Watch((2, 1)), Desk((2, 1)), [Watch((3, 0))],
    ]


def near(thing):
    """All values, most of them wrong, that come of a right one if one part of it, at any depth, is otherwise.

    None of them has a house with more than 100 unknowns: no value that is passed in has one [4].
    """
    return [other for other in all_near(thing) if not is_vast(other) and not has_vast_house(other)]


def is_vast(thing):
    """Whether a value is, but for its size, a house that is too large to stand in any value."""
    return isinstance(thing, tuple) and len(thing) == 2 and all_integers(thing) and thing[1] > 100


def has_vast_house(thing):
    """Whether the first part of a value is such a house."""
    return isinstance(thing, tuple) and len(thing) > 0 and is_vast(thing[0])


def all_near(thing):
    """The values of near, with those of vast houses."""
    found = beside(thing)
    if type(thing) is tuple:
        for at, part in enumerate(thing):
            found += [thing[:at] + (other,) + thing[at + 1:] for other in all_near(part)]
    if type(thing) is dict:
        found += near_dicts(thing)
    return found


def near_dicts(thing):
    """Dicts that come of one if its keys stand otherwise, or a key or a value is another one, or lacks, or is more."""
    found = [dict(reversed(list(thing.items()))), {**thing, 99: 1}, {**thing, "0": 1}, list(thing.items())]
    for key, worth in thing.items():
        others = {other: thing[other] for other in thing if other != key}
        found += [{**thing, key: other} for other in all_near(worth)] + [others]
        for other in [None, True, False, -1, 0, 1, 2, 3, 4, 10 ** 39, "", "0", (), (0,), (0, 1), str(key), (key,),
                      *keys_beside(key)]:
            found += [{**others, other: worth}, {**thing, other: worth}]
    return found


def keys_beside(key):
    """What may stand in the place of a key that is an integer or a tuple of integers."""
    if type(key) is int:
        return [key + 1]
    return [key + (0,), key + (9,), key[:-1], key[::-1], tuple(bool(part) for part in key)]


def beside(thing):
    """What may stand in the place of a value."""
    found = short_odd_values()
    if type(thing) is int:
        found += [thing - 1, thing + 1, -thing, str(thing), (thing,)]
    if type(thing) is str:
        found += [thing.upper(), thing + " ", " " + thing, thing[:-1], (thing,), [thing]]
    if type(thing) is tuple:
        found += [list(thing), dict(enumerate(thing)), thing + (0,), thing + (None,), (thing,), [thing], thing[::-1]]
        found += [thing[:at] + thing[at + 1:] for at in range(len(thing))]
        found += [thing[:at] + thing[at:at + 1] + thing[at:] for at in range(len(thing))]
        found += [tuple(bool(part) if part in (0, 1) else part for part in thing)] if all_integers(thing) else []
    return found


def all_integers(thing):
    """Whether a tuple has only integers."""
    return all(type(part) is int for part in thing)
