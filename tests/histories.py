"""Whole histories for the tests: the one of the document, and others by chance."""

from tests import history_oracle as told
from tests import oracle

ONE, BOTH, OTHER = (1, 0), (1, 1), (0, 1)
# The history of DOC.md that fits, and the one that is stuck.
CALLS = ((("tell", ONE, 1), 0, 3, "new"), (("tell", BOTH, 2), 1, 4, "new"), (("ask", OTHER), 2, 6, 1),
         (("ask", BOTH), 0, 9, "open"))
FITTING = ((3, 2), CALLS)
LATE = ((3, 2), CALLS[:3] + ((("ask", BOTH), 5, 9, "open"),))
NOTHING = ((2, 1), ((("ask", (0,)), 0, 1, "open"), (("tell", (1,), 1), 0, None, "new")))
EMPTY = [((prime, many), ()) for prime in (2, 3, 5, 7) for many in (0, 1, 3)]
HOUSES = [(2, 0), (2, 1), (2, 2), (2, 3), (3, 0), (3, 1), (3, 2), (3, 3), (5, 1), (5, 2), (7, 1), (7, 2)]


def some_sum(chosen, house):
    """A sum by chance: often a single unknown, sometimes the EMPTY sum."""
    prime, many = house
    if many and chosen.randrange(5) < 2:
        at = chosen.randrange(many)
        return (0,) * at + (chosen.randrange(1, prime),) + (0,) * (many - at - 1)
    if chosen.randrange(10) == 0:
        return (0,) * many
    return tuple(chosen.choice([0, 1, 1, chosen.randrange(prime)]) for _ in range(many))


def some_deeds(chosen, house, many):
    """Deeds by chance: most rows hold in one world, and the sums of some deeds are made of those of others."""
    prime, sums = house[0], [some_sum(chosen, house) for _ in range(many)]
    world = tuple(chosen.randrange(prime) for _ in range(house[1]))
    for at in range(many):
        if at > 1 and chosen.randrange(3):
            parts = [(one, 0) for one in chosen.sample(sums[:at], 2)]
            sums[at] = oracle.row_of(house, parts, [chosen.randrange(1, prime), chosen.randrange(1, prime)])[0]
    found = []
    for one in chosen.sample(sums, many):
        number = oracle.total(house, world, one) if chosen.randrange(6) else chosen.randrange(prime)
        found.append(("ask", one) if chosen.randrange(2) else ("tell", one, number))
    return found


def answered(house, stretched, order):
    """The history of calls (deed, begin, end) with the answers that they get in an order, whatever is ahead of what."""
    answers, _ = oracle.walked((house, stretched), order)
    return (house, tuple(call + (answer,) for call, answer in zip(stretched, answers, strict=True)))


def fitting_history(chosen, house, many, wide):
    """A history that FITS: each call takes effect at a moment of its stretch."""
    moments = [chosen.randrange(2 * many) for _ in range(many)]
    ends = [moment + chosen.randrange(wide) if chosen.randrange(9) else None for moment in moments]
    stretched = tuple((deed, moment - chosen.randrange(wide), end)
                      for deed, moment, end in zip(some_deeds(chosen, house, many), moments, ends, strict=True))
    order = sorted(range(many), key=lambda index: (moments[index], chosen.random()))
    return answered(house, stretched, order)


def sound_history(chosen, house, many, wide):
    """A history that is SOUND: its answers come of an order that has nothing to do with its stretches.

    Some asks that heard a number hear "open" instead: that leaves it sound.
    """
    begins, wide = [chosen.randrange(-2, 5) for _ in range(many)], chosen.randrange(1, wide + 1)
    ends = [begin + chosen.randrange(wide) if chosen.randrange(9) else None for begin in begins]
    stretched = tuple(zip(some_deeds(chosen, house, many), begins, ends, strict=True))
    history = answered(house, stretched, chosen.sample(range(many), many))
    return (house, tuple(call[:3] + ("open",) if call[0][0] == "ask" and chosen.randrange(8) == 0 else call
                         for call in history[1]))


def bent_history(chosen, house, many, wide):
    """A history, often not SOUND: one answer or two are others than those of some order."""
    calls = list(sound_history(chosen, house, many, wide)[1])
    for _ in range(chosen.randrange(1, 3)):
        if calls:
            at = chosen.randrange(many)
            answers = ["new", "new", "known", "clash"] if calls[at][0][0] == "tell" else ["open", *range(house[0])]
            calls[at] = calls[at][:3] + (chosen.choice(answers),)
    return (house, tuple(calls))


def some_histories(chosen, kind, count, most, wide=6, houses=HOUSES):
    """Histories of one of the kinds above, with at most so many calls."""
    sizes = [max(chosen.randrange(most + 1), chosen.randrange(most + 1)) for _ in range(count)]
    return [kind(chosen, chosen.choice(houses), many, wide) for many in sizes]


def mixed_histories(chosen, count, most):
    """Histories of all kinds."""
    found = [FITTING, LATE, NOTHING] + EMPTY
    for kind in (fitting_history, sound_history, bent_history):
        found += some_histories(chosen, kind, count, most)
    return found


def unfit_histories(chosen, count, most):
    """Histories that do not FIT, some of them SOUND, some not."""
    return [history for history in mixed_histories(chosen, count, most) if not told.weavings(history)]


def large_history(chosen, house):
    """A history of 24 calls that FITS, with as many NEW calls as unknowns; its new rows, ahead of all others.

    Each new row is made of the unknowns up to one of its own: so it is seen at once that they are independent.
    """
    prime, many = house
    world = tuple(chosen.randrange(prime) for _ in range(many))
    ones = [tuple(chosen.randrange(prime) for _ in range(at)) + (chosen.randrange(1, prime),) + (0,) * (many - at - 1)
            for at in range(many)]
    calls = [(("tell", one, oracle.total(house, world, one)), at, at + chosen.randrange(3 * many), "new")
             for at, one in enumerate(chosen.sample(ones, many))]
    for at in range(24 - many):
        one = tuple(chosen.randrange(prime) for _ in range(many))
        number, begin = oracle.total(house, world, one), chosen.randrange(5 * many)
        deed, answer = chosen.choice([
            (("ask", one), number), (("tell", one, number), "known"),
            (("tell", one, (number + 1) % prime), "clash")])
        calls.append((deed, begin, 5 * many + begin, answer))
    return (house, tuple(chosen.sample(calls, 24)))
