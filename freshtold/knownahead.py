"""Which sums the store gives just ahead of a call: in all weavings, in none, or in some; and papers that show it."""

from freshtold.books import is_parting
from freshtold.calls import new_calls
from freshtold.claims import all_ahead, greatest_hold, is_hold, weaving_broken
from freshtold.forms import is_integer
from freshtold.misfits import fitting_table
from freshtold.peeling import weaving_of
from freshtold.reasons import new_rows, reason_of
from freshtold.sums import parting_of


def known_ahead(history, index, asked):
    """Return "given" or "open" if the store gives a sum, or not, ahead of a call in all weavings, else "either"."""
    paper = known_paper(history, index, asked)
    if paper is None:
        return "either"
    return "given" if paper[0] == "given" else "open"


def weaving_where(history, index, asked, is_given):
    """Return a weaving in which the store gives a sum just ahead of a call, or one in which it does not; or None."""
    table, reason = fitting_table(history), reason_of(history, asked)
    if reason is None or index in reason:
        return None if is_given else weaving_of(history)
    if is_given:
        # With the reason {} this is any weaving: no call is told that might stand behind this one.
        return weaving_broken(table, (index, tuple(reason)))
    for other in reason:
        weaving = weaving_broken(table, (other, (index,)))
        if weaving is not None:
            return weaving
    return None


def sure_ahead(history, index):
    """Return the lot of the new calls that stand ahead of a call in all weavings."""
    ahead = all_ahead(fitting_table(history), index)
    return tuple([other for other in new_calls(history) if other in ahead])


def ever_ahead(history, index):
    """Return the lot of the new calls that stand ahead of a call in some weaving."""
    table = fitting_table(history)
    others = [other for other in new_calls(history) if other != index]
    return tuple([other for other in others if greatest_hold(table, (index, (other,))) is None])


def known_paper(history, index, asked):
    """Return a knowing paper of a call and a sum, or None."""
    table, reason = fitting_table(history), reason_of(history, asked)
    if reason is None:
        return ("without", parting_of(history[0], new_rows(history), asked))
    if index in reason:
        return ("own",)
    holds = {other: greatest_hold(table, (other, (index,))) for other in reason}
    if all([holds[other] is not None for other in holds]):
        return ("given", holds)
    last = greatest_hold(table, (index, tuple(reason)))
    return None if last is None else ("last", last)


def is_known_paper(history, index, asked, thing):
    """Tell whether a value is a knowing paper of a call and a sum, the history being sound."""
    if not isinstance(thing, tuple) or len(thing) not in (1, 2):
        return False
    reason = reason_of(history, asked)
    if len(thing) == 2 and thing[0] == "without":
        # Where such numbers are, the new rows do not give the sum.
        return is_parting(history, asked, thing[1])
    if reason is None:
        return False
    if index in reason:
        return thing == ("own",)
    if len(thing) == 1:
        return False
    if thing[0] == "given":
        return _are_holds(history, index, reason, thing[1])
    return thing[0] == "last" and reason != {} and is_hold(history, (index, tuple(reason)), thing[1])


def _are_holds(history, index, reason, thing):
    """Tell whether a value has, for just the calls of a reason, a hold of the claim that they stand ahead of a call."""
    if not isinstance(thing, dict) or len(thing) != len(reason):
        return False
    # True and 1 are the same key, but only one of them is an index.
    return all([is_integer(key) and key in reason and is_hold(history, (key, (index,)), thing[key]) for key in thing])
