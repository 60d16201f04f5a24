"""Book papers: what shows that no store, in whatever order it is told, can have answered a whole history so."""

from freshtold.calls import new_calls
from freshtold.errors import NotSound
from freshtold.forms import is_integer, is_world
from freshtold.reasons import dependent_factors, given_in, new_rows
from freshtold.sums import comes_to, empty_sum, made_by, parting_of


def is_sound(history):
    """Tell whether a history is sound."""
    return book_paper(history) is None


def book_paper(history):
    """Return a book paper, or None if the history is sound."""
    factors = dependent_factors(history)
    if factors is not None:
        return ("depends", factors)
    for index, call in enumerate(history[1]):
        if _wants_number(call):
            paper = _paper_against(history, index)
            if paper is not None:
                return paper
    return None


def is_book_paper(history, thing):
    """Tell whether a value is a book paper."""
    if not isinstance(thing, tuple):
        return False
    if len(thing) == 2 and thing[0] == "depends":
        return _is_dependence(history, thing[1])
    if len(thing) != 3 or not is_integer(thing[1]) or not 0 <= thing[1] < len(history[1]):
        return False
    call = history[1][thing[1]]
    if not _wants_number(call):
        return False
    if thing[0] == "gainsaid":
        return _is_factors(history, thing[2]) and _gainsays(call, _made(history, thing[2]))
    return thing[0] == "without" and is_parting(history, call[0][1], thing[2])


def is_parting(history, one, thing):
    """Tell whether a value has a number for each unknown such that all new rows' sums come to 0, a sum does not."""
    house = history[0]
    if not is_world(house, thing) or comes_to(house, thing, one) == 0:
        return False
    return all([comes_to(house, thing, row[0]) == 0 for row in new_rows(history)])


def must_be_sound(history):
    """Raise NotSound if a history is not sound."""
    paper = book_paper(history)
    if paper is not None:
        raise NotSound(paper)


def _wants_number(call):
    """Tell whether the answer of a call says something of the number that its sum is given."""
    return call[3] not in ("new", "open")


def _is_wanted(call, number):
    """Tell whether a number for its sum goes with the answer of a call, which wants one."""
    deed, answer = call[0], call[3]
    if deed[0] == "ask":
        return number == answer
    return (number == deed[2]) == (answer == "known")


def _gainsays(call, row):
    """Tell whether a row has the sum of a call and a number that does not go with its answer."""
    return row[0] == call[0][1] and not _is_wanted(call, row[1])


def _paper_against(history, index):
    """Return the book paper that a call brings up, or None; the new rows are independent."""
    call = history[1][index]
    given = given_in(history, call[0][1])
    if given is None:
        return ("without", index, parting_of(history[0], new_rows(history), call[0][1]))
    return None if _is_wanted(call, given[0]) else ("gainsaid", index, given[1])


def _is_factors(history, thing):
    """Tell whether a value is a dict from new calls to numbers other than 0."""
    if not isinstance(thing, dict):
        return False
    new, prime = new_calls(history), history[0][0]
    # True and 1 are the same key, but only one of them is an index.
    return all([is_integer(key) and key in new and is_integer(thing[key]) and 0 < thing[key] < prime for key in thing])


def _is_dependence(history, thing):
    """Tell whether a value is a dict from new calls, one at least, to numbers that make a row with the empty sum."""
    if not _is_factors(history, thing) or thing == {}:
        return False
    return _made(history, thing)[0] == empty_sum(history[0])


def _made(history, factors):
    """Return the row that the new rows make with factors, those of the others being 0."""
    numbers = tuple([factors.get(index, 0) for index in new_calls(history)])
    return made_by(history[0], new_rows(history), numbers)
