"""Which sums the store gives at a moment, told by an ask that is put in there, and from when to when it does."""

from freshtold.knownahead import known_ahead, sure_ahead
from freshtold.misfits import fitting_table
from freshtold.places import first_place
from freshtold.sums import empty_sum


def probed(history, moment):
    """Return a history with one more call, behind the others: an ask of the empty sum, at a moment alone."""
    house, calls = history
    return (house, calls + ((("ask", empty_sum(house)), moment, moment, 0),))


def known_at(history, moment, asked):
    """Return "given" or "open" if the store gives a sum, or not, at a moment in all weavings, else "either"."""
    # A history that is probed does not fit either, but the new call can be in what is stuck then.
    fitting_table(history)
    return _known_by_probe(history, moment, asked)


def sure_at(history, moment):
    """Return the lot of the new calls that have taken effect at a moment in all weavings."""
    fitting_table(history)
    return sure_ahead(probed(history, moment), len(history[1]))


def given_from(history, asked):
    """Return ("always",), ("from", moment) or ("never",): the least moment at which a sum is given in all weavings."""
    fitting_table(history)
    moments = _moments_of_change(history)
    place = first_place(len(moments), lambda at: _known_by_probe(history, moments[at], asked) == "given")
    if place == len(moments):
        return ("never",)
    return ("always",) if place == 0 else ("from", moments[place])


def open_until(history, asked):
    """Return ("always",), ("until", moment) or ("never",): the greatest moment at which a sum is given in none."""
    fitting_table(history)
    moments = _moments_of_change(history)
    place = first_place(len(moments), lambda at: _known_by_probe(history, moments[at], asked) != "open")
    if place == len(moments):
        return ("always",)
    return ("never",) if place == 0 else ("until", moments[place] - 1)


def _known_by_probe(history, moment, asked):
    """Return what is known of a sum ahead of the call that probes a history that fits."""
    return known_ahead(probed(history, moment), len(history[1]), asked)


def _moments_of_change(history):
    """Return the ascending list of one moment ahead of all calls, and of all others at which something can change."""
    changes = [call[1] for call in history[1]] + [call[2] + 1 for call in history[1] if call[2] is not None]
    return sorted(set(changes + [min(changes, default=0) - 1]))
