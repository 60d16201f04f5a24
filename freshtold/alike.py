"""Histories with the same weavings, and answers that make no difference to them."""

from freshtold.claims import weaving_broken
from freshtold.conditions import follows
from freshtold.misfits import fitting_table
from freshtold.peeling import bars_by_answers, bars_by_stretches, bars_of


def same_weavings(one, other):
    """Tell whether two histories that fit have the same weavings."""
    return parted_by(one, other) is None


def parted_by(one, other):
    """Return (which, weaving), a weaving of the first history or the second that is none of the other, or None."""
    tables = (fitting_table(one), fitting_table(other))
    # In histories that fit no empty sum is answered "open": so all their bars are conditions.
    for which, claims in ((0, bars_of(other)), (1, bars_of(one))):
        weaving = _weaving_breaking(tables[which], claims)
        if weaving is not None:
            return (which, weaving)
    return None


def idle_answers(history):
    """Return the lot of the calls, not new, whose answer conditions follow from all other conditions."""
    fitting_table(history)
    stretches, answers = bars_by_stretches(history), bars_by_answers(history)
    found = []
    for index, call in enumerate(history[1]):
        others = stretches + [bar for other, bars in enumerate(answers) if other != index for bar in bars]
        if call[3] != "new" and _all_follow(len(history[1]), others, answers[index]):
            found.append(index)
    return tuple(found)


def _weaving_breaking(table, claims):
    """Return a weaving in which some claim does not hold, or None, by the table of a history that fits."""
    for claim in claims:
        weaving = weaving_broken(table, claim)
        if weaving is not None:
            return weaving
    return None


def _all_follow(many, claims, others):
    """Tell whether all others follow from some claims."""
    return all([follows(many, claims, other) for other in others])
