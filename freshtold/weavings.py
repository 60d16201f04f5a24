"""Orders of the calls of a history or a plan, and what a store answers in them."""

from freshtold.calls import ahead_of, behind_of, is_ahead
from freshtold.forms import is_integer
from freshtold.stores import Store


def is_order(what, thing):
    """Tell whether a value is an order of a history or a plan."""
    if not isinstance(thing, tuple) or not all([is_integer(index) for index in thing]):
        return False
    if sorted(thing) != list(range(len(what[1]))):
        return False
    return not any([is_ahead(what, thing[late], thing[early]) for late in range(len(thing)) for early in range(late)])


def is_weaving(history, thing):
    """Tell whether a value is a weaving of a whole history."""
    return is_order(history, thing) and first_wrong(history, thing) is None


def answers_by(what, order):
    """Return the answer of each call, by its index, if a store is told and asked all deeds in an order."""
    answers = [None] * len(what[1])
    store = Store(what[0])
    for index in order:
        answers[index] = _answer_of(store, what[1][index][0])
    return tuple(answers)


def run_by(what, order):
    """Return the whole history of the same calls with the answers that they get in an order."""
    answers = answers_by(what, order)
    return (what[0], tuple([call[:3] + (answer,) for call, answer in zip(what[1], answers)]))


def first_wrong(history, order):
    """Return the least place in an order whose call has another answer than it gets there, or None."""
    answers = answers_by(history, order)
    for place, index in enumerate(order):
        if history[1][index][3] != answers[index]:
            return place
    return None


def store_at(what, order, place):
    """Return the rows that stand in the store ahead of the call at a place of an order, or at its end."""
    store = Store(what[0])
    for index in order[:place]:
        _answer_of(store, what[1][index][0])
    return store.rows()


def early_order(what, index):
    """Return an order in which only the calls that are ahead of a call stand ahead of it."""
    return _order_around(what, ahead_of(what, index), index)


def late_order(what, index):
    """Return an order in which all calls stand ahead of a call but those that it is ahead of."""
    behind = behind_of(what, index)
    return _order_around(what, [other for other in range(len(what[1])) if other not in behind], index)


def _answer_of(store, deed):
    """Tell or ask a store a deed, and return the answer."""
    if deed[0] == "tell":
        return store.tell(deed[1], deed[2])
    return store.ask(deed[1])


def _order_around(what, ahead, index):
    """Return the tuple of all calls in which those in ahead, itself left out, stand ahead of a call."""
    others = [other for other in range(len(what[1])) if other != index]
    early = _by_begins(what, [other for other in others if other in ahead])
    late = _by_begins(what, [other for other in others if other not in ahead])
    return early + (index,) + late


def _by_begins(what, indexes):
    """Return the tuple of some calls by their begins, among equal begins by their indexes."""
    # What is ahead of another call begins before it does, so it stands ahead of it here.
    return tuple([pair[1] for pair in sorted([(what[1][index][1], index) for index in indexes])])
