"""Histories with calls left out, with their sums turned, and beside one another."""

from freshtold.calls import ahead_of, behind_of
from freshtold.claims import greatest_hold
from freshtold.forms import is_sum
from freshtold.misfits import fitting_table
from freshtold.peeling import table_of
from freshtold.reasons import reasons
from freshtold.sums import are_independent, empty_sum, given_by, made_by


def without(history, lot):
    """Return a history without the calls of a lot."""
    house, calls = history
    return (house, tuple([call for index, call in enumerate(calls) if index not in lot]))


def idle_calls(history):
    """Return the lot of the calls in no other's reason without which the others have just the same weavings."""
    fitting_table(history)
    lots = reasons(history)
    return tuple([index for index in range(len(lots)) if _is_idle(history, lots, index)])


def is_turning(house, thing):
    """Tell whether a value is a turning of a house."""
    if not isinstance(thing, tuple) or len(thing) != house[1] or not all([is_sum(house, one) for one in thing]):
        return False
    return are_independent(house, _quiet(thing))


def turned(history, turning):
    """Return a history in which each sum is made of the sums of a turning, with its factors as the numbers."""
    house, calls = history
    rows = _quiet(turning)
    return (house, tuple([_with_sum(call, made_by(house, rows, call[0][1])[0]) for call in calls]))


def turned_back(house, turning):
    """Return the turning that leads all sums back that were turned."""
    # A sum with a single factor 1 turns to one of the sums of a turning: so these lead back to such single ones.
    singles = [tuple([1 if at == place else 0 for at in range(house[1])]) for place in range(house[1])]
    return tuple([given_by(house, _quiet(turning), single)[1] for single in singles])


def beside(one, other):
    """Return the history of the calls of two histories, those of the other one behind, each with its own unknowns."""
    (prime, many), calls = one
    (_, more), others = other
    left, right = empty_sum((prime, many)), empty_sum((prime, more))
    padded = [_with_sum(call, call[0][1] + right) for call in calls]
    return ((prime, many + more), tuple(padded + [_with_sum(call, left + call[0][1]) for call in others]))


def _is_idle(history, lots, index):
    """Tell whether a call of a history that fits is idle; lots has for each call that of its sum's reason, or None."""
    if any([index in lot for other, lot in enumerate(lots) if other != index and lot is not None]):
        return False
    table = table_of(without(history, (index,)))
    # The call can be put in behind the last of those that it must have ahead: if there is always room for it there.
    return all([greatest_hold(table, _moved_along(claim, index)) is not None
                for claim in _claims_of_room(history, lots, index)])


def _claims_of_room(history, lots, index):
    """Return the list of the claims that hold if what must be ahead of a call is ahead of what must be behind it."""
    answer, lot = history[1][index][3], lots[index]
    leant_on = () if answer in ("new", "open") else lot
    early = ahead_of(history, index) + leant_on
    claims = [(first, (last,)) for first in early for last in behind_of(history, index)]
    if answer == "open" and lot is not None:
        claims = claims + [(first, tuple([other for other in lot if other != first])) for first in early]
    return claims


def _moved_along(claim, index):
    """Return a claim with the indexes that its calls have if a call is left out."""
    first, lot = claim
    return (_place_without(first, index), tuple([_place_without(other, index) for other in lot]))


def _place_without(other, index):
    """Return the index that another call has if a call is left out."""
    return other - 1 if other > index else other


def _quiet(turning):
    """Return the rows of the sums of a turning, with 0s as their numbers, which don't matter."""
    return tuple([(one, 0) for one in turning])


def _with_sum(call, one):
    """Return a call with another sum."""
    deed = call[0]
    return ((deed[0], one) + deed[2:],) + call[1:]
