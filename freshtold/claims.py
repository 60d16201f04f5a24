"""Claims that a call stands ahead of the last one of several, and the holds that show that they hold always."""

from freshtold.forms import is_lot
from freshtold.misfits import fitting_table
from freshtold.peeling import all_of, has_member, is_held, lot_of, mask_of, table_of, taken_away


def holds_in(order, claim):
    """Tell whether a claim holds in an order."""
    index, lot = claim
    return order.index(index) < max([order.index(other) for other in lot])


def hold_of(history, claim):
    """Return the greatest hold of a claim, or None."""
    return greatest_hold(fitting_table(history), claim)


def is_hold(history, claim, thing):
    """Tell whether a value is a hold of a claim of a sound history."""
    index, lot = claim
    if not is_lot(len(history[1]), thing) or not all([other in thing for other in (index,) + lot]):
        return False
    table, mask = table_of(history), mask_of(thing)
    return all([other in lot or is_held(table, other, mask) for other in thing])


def holds_always(history, claim):
    """Tell whether a claim holds in all weavings."""
    return greatest_hold(fitting_table(history), claim) is not None


def weaving_against(history, claim):
    """Return a weaving in which a claim does not hold, or None."""
    return weaving_broken(fitting_table(history), claim)


def surely_ahead(history):
    """Return the tuple that has for each call the lot of those of which it stands ahead in all weavings."""
    table = fitting_table(history)
    indexes = list(range(len(table)))
    ahead = [all_ahead(table, index) for index in indexes]
    return tuple([tuple([other for other in indexes if index in ahead[other]]) for index in indexes])


def greatest_hold(table, claim):
    """Return the greatest hold of a claim in the table of a history that fits, or None."""
    index, lot = claim
    _, rest = taken_away(table, all_of(len(table)), mask_of(lot))
    return lot_of(rest) if has_member(rest, index) else None


def weaving_broken(table, claim):
    """Return a weaving, of a history that fits, in which a claim does not hold, or None, by its table."""
    index, lot = claim
    late, rest = taken_away(table, all_of(len(table)), mask_of(lot))
    if index not in late:
        return None
    # What is left has all of the claim's lot, so all of it comes to stand ahead of the call.
    early, _ = taken_away(table, rest, 0)
    return (late + early)[::-1]


def all_ahead(table, index):
    """Return the lot of the calls that stand ahead of a call in all weavings, by the table of a history that fits."""
    _, rest = taken_away(table, all_of(len(table)), 1 << index)
    return lot_of(rest - (1 << index))
