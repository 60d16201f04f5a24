"""Reasons: which new rows of a whole history make a sum, with which factors, and which calls lean on which."""

from freshtold.calls import new_calls
from freshtold.errors import NotIndependent
from freshtold.sums import dependence, given_by


def new_rows(history):
    """Return the rows of the new calls, in the order of the calls."""
    return tuple([history[1][index][0][1:] for index in new_calls(history)])


def reason_of(history, asked):
    """Return the reason of a sum, or None."""
    _must_be_independent(history)
    given = given_in(history, asked)
    return None if given is None else given[1]


def number_of(history, asked):
    """Return the number that the new rows give a sum, or None."""
    _must_be_independent(history)
    given = given_in(history, asked)
    return None if given is None else given[0]


def leaners(history, index):
    """Return the lot of the calls that lean on a call."""
    found = reasons(history)
    return tuple([other for other, call in enumerate(history[1])
                  if call[3] not in ("new", "open") and found[other] is not None and index in found[other]])


def reasons(history):
    """Return the tuple that has for each call the lot of the calls in the reason of its sum, or None."""
    _must_be_independent(history)
    givens = [given_in(history, call[0][1]) for call in history[1]]
    return tuple([None if given is None else tuple(given[1]) for given in givens])


def dependent_factors(history):
    """Return the dict from new calls to numbers other than 0 that make a row with the empty sum, or None."""
    numbers = dependence(history[0], new_rows(history))
    return None if numbers is None else _factors_of(history, numbers)


def given_in(history, asked):
    """Return (number, reason) of a sum, or None, in a history whose new rows are known to be independent."""
    given = given_by(history[0], new_rows(history), asked)
    return None if given is None else (given[0], _factors_of(history, given[1]))


def _factors_of(history, numbers):
    """Return the dict from new calls to their numbers in a combination of their rows, without 0s."""
    return {index: number for index, number in zip(new_calls(history), numbers) if number != 0}


def _must_be_independent(history):
    """Raise NotIndependent if the new rows are not independent."""
    factors = dependent_factors(history)
    if factors is not None:
        raise NotIndependent(factors)
