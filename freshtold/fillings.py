"""Fillings of histories: which lost tells took effect, and what the unheard asks were answered."""

from freshtold.calls import lost_calls, unheard_calls
from freshtold.errors import TooMany
from freshtold.forms import is_call, is_lot
from freshtold.peeling import fits
from freshtold.reasons import number_of

MOST_UNTOLD = 6


def filled(history, taken, answers):
    """Return the whole history in which the lost tells taken are new, and the unheard asks have these answers."""
    return _answered(history, taken, dict(zip(unheard_calls(history), answers)))


def is_filling(history, thing):
    """Tell whether a value is a filling of a history."""
    if not isinstance(thing, tuple) or len(thing) != 2:
        return False
    taken, answers = thing
    if not are_lost_tells(history, taken) or not _are_answers(history, answers):
        return False
    return fits(filled(history, taken, answers))


def fillings(history):
    """Return the list of all fillings of a history, numbers standing ahead of "open"."""
    lots = lost_lots(history)
    if len(lost_tells(history)) + len(unheard_calls(history)) > MOST_UNTOLD:
        raise TooMany(MOST_UNTOLD)
    return [(taken, answers) for taken in lots for answers in _answers_beside(history, taken)]


def heard(history, index):
    """Return the list of the answers that an unheard ask has in some filling, "open" behind the numbers."""
    found = []
    for taken in lost_lots(history):
        if fits(with_taken(history, taken)):
            for answer in _possible_answers(history, taken, index):
                # The other unheard asks are left out: they change nothing, and each has some answer wherever it is.
                if answer not in found and fits(_answered(history, taken, {index: answer})):
                    found.append(answer)
    return [answer for answer in list(range(history[0][0])) + ["open"] if answer in found]


def lost_tells(history):
    """Return the lot of the lost tells."""
    return tuple([index for index in lost_calls(history) if history[1][index][0][0] == "tell"])


def lost_lots(history):
    """Return the ascending list of all lots of lost tells; raise TooMany if there are too many of these."""
    tells = lost_tells(history)
    if len(tells) > MOST_UNTOLD:
        raise TooMany(MOST_UNTOLD)
    lots = [()]
    for index in tells:
        lots = lots + [lot + (index,) for lot in lots]
    return sorted(lots)


def are_lost_tells(history, thing):
    """Tell whether a value is a lot of lost tells."""
    tells = lost_tells(history)
    return is_lot(len(history[1]), thing) and all([index in tells for index in thing])


def with_taken(history, taken):
    """Return the history in which some lost tells are new, all other lost calls and all unheard asks left out."""
    return _answered(history, taken, {})


def _answered(history, taken, told):
    """Return the history in which some lost tells are new, and unheard asks have the answers that a dict tells.

    The calls that are without an answer then are left out.
    """
    house, calls = history
    answers = ["new" if index in taken else told.get(index, call[3]) for index, call in enumerate(calls)]
    return (house, tuple([call[:3] + (answer,) for call, answer in zip(calls, answers) if answer is not None]))


def _are_answers(history, thing):
    """Tell whether a value is a tuple of an answer, other than None, for each unheard ask."""
    asks = unheard_calls(history)
    if not isinstance(thing, tuple) or len(thing) != len(asks):
        return False
    calls = [history[1][index][:3] + (answer,) for index, answer in zip(asks, thing)]
    return all([call[3] is not None and is_call(history[0], call) for call in calls])


def _possible_answers(history, taken, index):
    """Return the list of the only answers that an unheard ask can have if these lost tells, which fit, are taken."""
    number = number_of(with_taken(history, taken), history[1][index][0][1])
    return ["open"] if number is None else [number, "open"]


def _answers_beside(history, taken):
    """Return the list of the tuples of answers with which the lost tells taken are a filling, in their order."""
    if not fits(with_taken(history, taken)):
        return []
    found = [()]
    for index in unheard_calls(history):
        answers = _possible_answers(history, taken, index)
        # As long as answers are told of the first asks alone, the others are left out.
        longer = [begun + (answer,) for begun in found for answer in answers]
        found = [begun for begun in longer if fits(filled(history, taken, begun))]
    return found
