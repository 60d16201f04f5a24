"""Conditions: the claims that tell all weavings of a sound history; and claims by themselves, of so many calls.

A claim bars its call just as long as all of its lot are left: so claims are peeled as bars are.
"""

from freshtold.books import must_be_sound
from freshtold.peeling import all_of, bars_by_answers, bars_of, has_member, mask_of, table_by, taken_away


def conditions(history):
    """Return the ascending list of the conditions of a history."""
    must_be_sound(history)
    return _sorted_claims(bars_of(history))


def answer_conditions(history, index):
    """Return the ascending list of the conditions that come of the answer of a call."""
    must_be_sound(history)
    return _sorted_claims(bars_by_answers(history)[index])


def can_all_hold(many, claims):
    """Tell whether all claims hold in some order of so many calls."""
    _, rest = taken_away(table_by(many, claims), all_of(many), 0)
    return rest == 0


def follows(many, claims, claim):
    """Tell whether a claim holds in each order of so many calls in which all claims hold."""
    index, lot = claim
    _, rest = taken_away(table_by(many, claims), all_of(many), mask_of(lot))
    return has_member(rest, index) or not can_all_hold(many, claims)


def needless(many, claims):
    """Return the ascending list of the claims that follow from all others unlike them."""
    unlike = _sorted_claims(claims)
    return [claim for claim in unlike if follows(many, _others(unlike, claim), claim)]


def least_claims(many, claims):
    """Return the ascending list of the claims that are left if those that follow go, the greatest ones first."""
    unlike = _sorted_claims(claims)
    left = unlike
    for claim in unlike[::-1]:
        if follows(many, _others(left, claim), claim):
            left = _others(left, claim)
    return left


def _sorted_claims(bars):
    """Return the ascending list of the bars that are claims."""
    # A bar with the lot () comes of an empty sum that is answered "open": it is no claim.
    return sorted({bar for bar in bars if bar[1] != ()})


def _others(claims, claim):
    """Return the list of the claims but for one."""
    return [other for other in claims if other != claim]
