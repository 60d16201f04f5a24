"""Which answers are sure in plans, before there is any; orders in which a call gets an answer; and what shows it.

The told rows of a plan hold together in some world: so a store that is told rows of some tells never answers "clash",
and gives in the end what these rows give, in whatever order they are told.
"""

from freshtold.calls import ahead_of, behind_of, told_calls
from freshtold.forms import is_integer, is_world
from freshtold.stores import Store
from freshtold.sums import comes_to, made_by, parting_of
from freshtold.weavings import early_order, late_order


def rank_of(plan):
    """Return the number of new calls in each run."""
    return len(store_of(plan, told_calls(plan)).rows())


def can_answer(plan, index):
    """Return the list of the answers that a call gets in some run: "known" or a number, then "new" or "open"."""
    deed = plan[1][index][0]
    early = store_of(plan, tells_ahead(plan, index)).ask(deed[1])
    late = store_of(plan, tells_not_behind(plan, index)).ask(deed[1])
    given, not_given = ("known", "new") if deed[0] == "tell" else (late, "open")
    return ([] if late == "open" else [given]) + ([not_given] if early == "open" else [])


def sure_answer(plan, index):
    """Return the answer that a call gets in all runs, or None if there are two that it can get."""
    answers = can_answer(plan, index)
    return answers[0] if len(answers) == 1 else None


def order_for(plan, index, answer):
    """Return an order in which a call gets an answer, which may be any value, or None."""
    # True is no answer, though it is equal to 1.
    if not isinstance(answer, str) and not is_integer(answer):
        return None
    if answer not in can_answer(plan, index):
        return None
    return early_order(plan, index) if answer in ("new", "open") else late_order(plan, index)


def sure_new(plan):
    """Return the lot of the tells that are new in all runs."""
    return tuple([index for index in told_calls(plan) if sure_answer(plan, index) == "new"])


def never_new(plan):
    """Return the lot of the tells that are new in no run."""
    return tuple([index for index in told_calls(plan) if sure_answer(plan, index) == "known"])


def known_by(plan, index):
    """Return the dict from tells ahead of a call to the numbers of their rows, without 0s, in its sum, or None."""
    store, new, tells = Store(plan[0]), [], tells_ahead(plan, index)
    for other, (one, number) in zip(tells, rows_of(plan, tells)):
        if store.tell(one, number) == "new":
            new.append(other)
    reason = store.reason(plan[1][index][0][1])
    return None if reason is None else {new[place]: reason[place] for place in reason}


def is_known_by(plan, index, thing):
    """Tell whether a value is a dict that shows that the sum of a call is given ahead of it in all runs."""
    if not isinstance(thing, dict):
        return False
    house, tells = plan[0], tells_ahead(plan, index)
    # True and 1 are the same key, but only one of them is an index.
    if not all([is_integer(key) and key in tells and is_integer(thing[key]) and 0 < thing[key] < house[0]
                for key in thing]):
        return False
    numbers = tuple([thing.get(other, 0) for other in tells])
    return made_by(house, rows_of(plan, tells), numbers)[0] == plan[1][index][0][1]


def open_by(plan, index):
    """Return a number for each unknown that show that the sum of a call is given ahead of it in no run, or None."""
    return parting_of(plan[0], rows_of(plan, tells_not_behind(plan, index)), plan[1][index][0][1])


def is_open_by(plan, index, thing):
    """Tell whether a value is a tuple of numbers that show that the sum of a call is given ahead of it in no run."""
    house = plan[0]
    if not is_world(house, thing) or comes_to(house, thing, plan[1][index][0][1]) == 0:
        return False
    return all([comes_to(house, thing, row[0]) == 0 for row in rows_of(plan, tells_not_behind(plan, index))])


def rows_of(plan, tells):
    """Return the tuple of the rows of some tells."""
    return tuple([plan[1][index][0][1:] for index in tells])


def store_of(plan, tells):
    """Return the store that is told the rows of some tells."""
    store = Store(plan[0])
    for one, number in rows_of(plan, tells):
        store.tell(one, number)
    return store


def tells_ahead(plan, index):
    """Return the lot of the tells that are ahead of a call: in each run they stand ahead of it."""
    ahead = ahead_of(plan, index)
    return tuple([other for other in told_calls(plan) if other in ahead])


def tells_not_behind(plan, index):
    """Return the lot of the other tells that a call is not ahead of: in some run all of them stand ahead of it."""
    behind = behind_of(plan, index)
    return tuple([other for other in told_calls(plan) if other != index and other not in behind])
