"""Whether a value, of whatever kind, is what the name of a function says. The bounds of sizes are not checked."""

from freshtold.sums import strife_of

PRIMES = (2, 3, 5, 7)
TELL_ANSWERS = ("new", "known", "clash")


def is_integer(thing):
    """Tell whether a value is an integer, which True and False are not."""
    return isinstance(thing, int) and not isinstance(thing, bool)


def is_house(thing):
    """Tell whether a value is a house."""
    if not _has_parts(2, thing) or not is_integer(thing[0]) or not is_integer(thing[1]):
        return False
    return thing[0] in PRIMES and thing[1] >= 0


def is_sum(house, thing):
    """Tell whether a value is a sum of a house."""
    return _has_parts(house[1], thing) and all([_is_number(house, part) for part in thing])


def is_row(house, thing):
    """Tell whether a value is a row of a house."""
    return _has_parts(2, thing) and is_sum(house, thing[0]) and _is_number(house, thing[1])


def is_world(house, thing):
    """Tell whether a value is a world of a house."""
    # A world is no sum, but it has the same form: a number for each unknown.
    return is_sum(house, thing)


def is_deed(house, thing):
    """Tell whether a value is a deed in a house."""
    if _has_parts(2, thing):
        return thing[0] == "ask" and is_sum(house, thing[1])
    return _has_parts(3, thing) and thing[0] == "tell" and is_row(house, thing[1:])


def is_call(house, thing):
    """Tell whether a value is a call in a house."""
    if not _has_parts(4, thing) or not is_deed(house, thing[0]):
        return False
    deed, begin, end, answer = thing
    if end is None:
        return is_integer(begin) and (answer is None or _is_answer(house, deed, answer))
    if answer is None:
        return deed[0] == "ask" and _is_stretch(begin, end)
    return _is_stretch(begin, end) and _is_answer(house, deed, answer)


def is_history(thing):
    """Tell whether a value is a history."""
    return _is_house_with_tuple(thing) and all([is_call(thing[0], call) for call in thing[1]])


def is_plan(thing):
    """Tell whether a value is a plan."""
    if not _is_house_with_tuple(thing) or not all([_is_planned(thing[0], call) for call in thing[1]]):
        return False
    house, calls = thing
    told = tuple([call[0][1:] for call in calls if call[0][0] == "tell"])
    return strife_of(house, told) is None


def is_lot(many, thing):
    """Tell whether a value is a lot of indexes below many."""
    if not isinstance(thing, tuple):
        return False
    least = 0
    for index in thing:
        if not is_integer(index) or not least <= index < many:
            return False
        least = index + 1
    return True


def is_claim(history, thing):
    """Tell whether a value is a claim of a history."""
    many = len(history[1])
    if not _has_parts(2, thing) or not is_integer(thing[0]) or not is_lot(many, thing[1]):
        return False
    index, lot = thing
    return 0 <= index < many and lot != () and index not in lot


def is_whole(history):
    """Tell whether no answer of a history is None."""
    return all([call[3] is not None for call in history[1]])


def _has_parts(many, thing):
    """Tell whether a value is a tuple of so many parts."""
    return isinstance(thing, tuple) and len(thing) == many


def _is_house_with_tuple(thing):
    """Tell whether a value is a tuple of a house and another tuple."""
    return _has_parts(2, thing) and is_house(thing[0]) and isinstance(thing[1], tuple)


def _is_number(house, thing):
    """Tell whether a value is a number of a house."""
    return is_integer(thing) and 0 <= thing < house[0]


def _is_stretch(begin, end):
    """Tell whether two values are a begin and an end that is not None."""
    return is_integer(begin) and is_integer(end) and begin <= end


def _is_answer(house, deed, thing):
    """Tell whether a value is an answer, other than None, to a deed."""
    if deed[0] == "tell":
        return thing in TELL_ANSWERS
    return thing == "open" or _is_number(house, thing)


def _is_planned(house, thing):
    """Tell whether a value is a call as it stands in a plan."""
    return _has_parts(3, thing) and is_deed(house, thing[0]) and _is_stretch(thing[1], thing[2])
