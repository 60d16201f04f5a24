"""Histories for the tests in which answers are not told: those of the document, and others by chance."""

from tests.histories import HOUSES, bent_history, fitting_history, some_histories, sound_history

ONE = (1,)
CALLS = ((("tell", ONE, 1), 0, None, None), (("ask", ONE), 1, 2, None), (("ask", ONE), 4, 5, None))
HISTORY = ((2, 1), CALLS)
# Two lost tells that gainsay one another, and asks that hear of them; a lost ask, which changes nothing.
STRIFE = ((3, 1), ((("tell", ONE, 1), 0, None, None), (("ask", ONE), 1, 2, None), (("tell", ONE, 2), 0, None, None),
                   (("ask", ONE), 1, None, None), (("tell", (2,), 1), 3, 4, "known")))


def many_lost(count, more=()):
    """A history of so many lost tells, each of an unknown of its own, and of more calls."""
    sums = [tuple(int(at == place) for at in range(8)) for place in range(count)]
    return ((2, 8), tuple((("tell", one, 1), 0, None, None) for one in sums) + more)


def asks(count, end):
    """So many asks without an answer."""
    return tuple((("ask", (1,) * 8), 0, end, None) for _ in range(count))


def holed(chosen, history, holes=3):
    """A history like this one, in which some calls are LOST or UNHEARD: one of so many, about."""
    calls = []
    for deed, begin, end, answer in history[1]:
        if chosen.randrange(holes) == 0:
            answer = None
            if deed[0] == "tell" or chosen.randrange(3) == 0:
                end = None
        calls.append((deed, begin, end, answer))
    return (history[0], tuple(calls))


def holed_histories(chosen, count, most, houses=HOUSES):
    """Histories of all kinds with calls that are LOST or UNHEARD; some of them without one."""
    found = []
    for kind, holes in ((fitting_history, 2), (sound_history, 2), (bent_history, 4), (fitting_history, 50)):
        found += [holed(chosen, history, holes) for history in some_histories(chosen, kind, count, most, houses=houses)]
    return found
