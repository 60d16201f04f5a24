"""The least lots of claims that hold always, and weavings told from their begins on: the least, the greatest, how many.

Calls with which some weaving begins are told by their mask: a call can stand next, behind them, if all others can be
taken away from behind it. It is not barred then, for it could be taken away itself while all of them were left.
"""

from itertools import combinations

from freshtold.claims import all_ahead, greatest_hold
from freshtold.errors import TooMany
from freshtold.misfits import fitting_table
from freshtold.peeling import all_of, has_member, is_held, lot_of, mask_of, taken_away

MOST_CALLS = 12
MOST_LOTS = 400


def least_lots(history, index):
    """Return the ascending list of the least lots by which a claim of a call holds in all weavings."""
    table = fitting_table(history)
    if len(table) > MOST_CALLS:
        raise TooMany(MOST_CALLS)
    others = [other for other in range(len(table)) if other != index]
    found = []
    for many in range(1, len(table)):
        for lot in combinations(others, many):
            if not has_part(lot, found) and greatest_hold(table, (index, lot)) is not None:
                found.append(lot)
    return sorted(found)


def earliest_place(history, index):
    """Return the least place at which a call stands in a weaving."""
    # All others can stand behind it at once: what can be taken away can be so whatever goes before.
    return len(all_ahead(fitting_table(history), index))


def weaving_from(history, begin):
    """Return the least weaving that begins with some calls, in this order, or None."""
    table = fitting_table(history)
    for place, index in enumerate(begin):
        if is_held(table, index, mask_of(begin[:place + 1])):
            return None
    if not _can_begin(table, mask_of(begin)):
        return None
    return _woven_on(table, begin, list(range(len(table))))


def least_weaving(history):
    """Return the least weaving of all."""
    table = fitting_table(history)
    return _woven_on(table, (), list(range(len(table))))


def greatest_weaving(history):
    """Return the greatest weaving of all."""
    table = fitting_table(history)
    return _woven_on(table, (), list(range(len(table)))[::-1])


def weavings_many(history):
    """Return how many weavings there are."""
    table = fitting_table(history)
    # From the end on: each lot that is left, told as a mask, with the number of ways in which the others go.
    ways, lots = {all_of(len(table)): 1}, 1
    for _ in range(len(table)):
        ways = _ways_less(table, ways)
        lots = lots + len(ways)
        if lots > MOST_LOTS:
            raise TooMany(MOST_LOTS)
    return ways[0]


def has_part(lot, lots):
    """Tell whether all members of one of some lots are in a lot."""
    return any([all([index in lot for index in part]) for part in lots])


def _can_begin(table, mask):
    """Tell whether all calls can be taken away but those of a mask, by the table of a history that fits."""
    return taken_away(table, all_of(len(table)), mask)[1] == mask


def _woven_on(table, begin, choices):
    """Return the weaving that begins so, and goes on always with the first of the choices that can stand next."""
    order, mask = begin, mask_of(begin)
    while len(order) < len(table):
        index = _first_next(table, mask, choices)
        order, mask = order + (index,), mask + (1 << index)
    return order


def _first_next(table, mask, choices):
    """Return the first of the choices that can stand next behind the calls of a mask; there is one."""
    for index in choices:
        if _can_be_next(table, mask, index):
            return index
    return None


def _can_be_next(table, mask, index):
    """Tell whether a call can stand next behind those of a mask, with which some weaving begins."""
    return not has_member(mask, index) and _can_begin(table, mask + (1 << index))


def _ways_less(table, ways):
    """Return the dict from the masks that come of taking one call away to the numbers of ways that lead there."""
    found = {}
    for mask in ways:
        for index in lot_of(mask):
            if not is_held(table, index, mask):
                less = mask - (1 << index)
                found[less] = found.get(less, 0) + ways[mask]
    return found
