"""Which lots of tells are the lots of the new calls of some run of a plan, and which tells a call waits for."""

from itertools import combinations

from freshtold.calls import ahead_of, told_calls
from freshtold.errors import TooMany
from freshtold.leastlots import has_part
from freshtold.stores import Store
from freshtold.sums import are_independent
from freshtold.sureness import rank_of, rows_of, store_of, tells_ahead, tells_not_behind

MOST_TELLS = 10


def can_be_new(plan, lot):
    """Tell whether a lot of tells is that of the new calls of some run."""
    return order_with(plan, lot) is not None


def order_with(plan, lot):
    """Return an order of a run in which just the tells of a lot are new, or None."""
    if not are_independent(plan[0], rows_of(plan, lot)):
        return None
    taken, rest = gone_on(plan, lot)
    return taken if rest == () else None


def gone_on(plan, lot):
    """Return (taken, rest): the calls taken one by one, always the least that can be, and the lot of the others.

    All calls ahead of one are taken before it; it is in the lot, or an ask, or the taken ones of the lot give its sum.
    """
    store, taken, rest = Store(plan[0]), (), tuple(range(len(plan[1])))
    index = _first_to_take(plan, lot, store, rest)
    while index is not None:
        taken, rest = taken + (index,), tuple([other for other in rest if other != index])
        if index in lot:
            _, one, number = plan[1][index][0]
            store.tell(one, number)
        index = _first_to_take(plan, lot, store, rest)
    return (taken, rest)


def new_lots(plan):
    """Return the ascending list of all lots that can be new."""
    tells = list(told_calls(plan))
    if len(tells) > MOST_TELLS:
        raise TooMany(MOST_TELLS)
    many = int(rank_of(plan))
    return [lot for lot in combinations(tells, many) if can_be_new(plan, lot)]


def waits_for(plan, index):
    """Return the ascending list of the least lots of tells that give a call's sum together with the tells ahead of it.

    Their members are tells that can stand ahead of the call or behind it.
    """
    ahead = tells_ahead(plan, index)
    others = [other for other in tells_not_behind(plan, index) if other not in ahead]
    if len(others) > MOST_TELLS:
        raise TooMany(MOST_TELLS)
    found = []
    for many in range(len(others) + 1):
        for lot in combinations(others, many):
            if not has_part(lot, found) and _is_given(plan, ahead + lot, index):
                found.append(lot)
    return sorted(found)


def _is_given(plan, tells, index):
    """Tell whether the rows of some tells give the sum of a call."""
    return store_of(plan, tells).reason(plan[1][index][0][1]) is not None


def _first_to_take(plan, lot, store, rest):
    """Return the least call of the rest that can be taken if the store has the taken rows of the lot, or None."""
    for index in rest:
        deed = plan[1][index][0]
        if not any([other in rest for other in ahead_of(plan, index)]):
            if deed[0] == "ask" or index in lot or store.reason(deed[1]) is not None:
                return index
    return None
