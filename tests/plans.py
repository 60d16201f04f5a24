"""Plans for the tests; and what [10] says of them, told again: all orders are walked, all lots are tried."""

from functools import lru_cache

from tests import history_oracle as told
from tests import oracle
from tests.histories import HOUSES, some_deeds

ONE, BOTH, OTHER = (1, 0), (1, 1), (0, 1)
# The plans of DOC.md.
CALLS = ((("tell", ONE, 1), 0, 2), (("tell", BOTH, 0), 1, 6), (("tell", OTHER, 2), 3, 7), (("ask", BOTH), 4, 5),
         (("tell", ONE, 1), 8, 9))
PLAN = ((3, 2), CALLS)
EARLY = ((3, 2), CALLS[:1] + ((("ask", BOTH), 1, 5),))
EMPTY = [((prime, many), ()) for prime in (2, 3, 5, 7) for many in (0, 1, 3)]
# Stretches that touch: none of them is ahead of another one; and the same ones, each ahead of the next.
TOUCHING = ((2, 2), ((("tell", (1, 0), 1), 0, 3), (("ask", (1, 0)), 3, 3), (("tell", (1, 0), 1), 3, 5)))
PARTED = ((2, 2), ((("tell", (1, 0), 1), 0, 2), (("ask", (1, 0)), 3, 3), (("tell", (1, 0), 1), 4, 5)))


def some_plan(chosen, house, many, wide, steps=2):
    """A PLAN by chance: all told rows hold in one world."""
    world, calls = tuple(chosen.randrange(house[0]) for _ in range(house[1])), []
    for deed in some_deeds(chosen, house, many):
        if deed[0] == "tell":
            deed = ("tell", deed[1], oracle.total(house, world, deed[1]))
        begin = chosen.randrange(-2, steps * many)
        calls.append((deed, begin, begin + chosen.randrange(wide)))
    return (house, tuple(calls))


def some_plans(chosen, count, most, houses=HOUSES):
    """PLANS with at most so many calls, of short stretches and of long ones."""
    sizes = [max(chosen.randrange(most + 1), chosen.randrange(most + 1)) for _ in range(count)]
    return [some_plan(chosen, chosen.choice(houses), many, chosen.choice([1, 3, 9, 20])) for many in sizes]


def large_plan(chosen, house, tells, wide):
    """A PLAN of 24 calls, so many of them tells."""
    world, calls = tuple(chosen.randrange(house[0]) for _ in range(house[1])), []
    for at in range(24):
        one, begin = tuple(chosen.randrange(house[0]) for _ in range(house[1])), chosen.randrange(30)
        deed = ("tell", one, oracle.total(house, world, one)) if at < tells else ("ask", one)
        calls.append((deed, begin, begin + chosen.randrange(wide)))
    return (house, tuple(chosen.sample(calls, 24)))


def tells(plan):
    return tuple(index for index, call in enumerate(plan[1]) if call[0][0] == "tell")


def asked(plan, index):
    """The sum of a call."""
    return plan[1][index][0][1]


@lru_cache(4000)
def runs(plan):
    """The list of (order, answers), for all ORDERS."""
    return [(order, answers_in(plan, order)) for order in oracle.orders(plan)]


def answers_in(plan, order):
    """The answers that the calls get in an order."""
    rows, answers = (), {}
    for index in order:
        deed = plan[1][index][0]
        number, _ = told.given(plan[0], rows).get(deed[1], (None, None))
        if deed[0] == "ask":
            answers[index] = "open" if number is None else number
        elif number is None:
            answers[index], rows = "new", rows + (deed[1:],)
        else:
            answers[index] = "known" if number == deed[2] else "clash"
    return tuple(answers[index] for index in range(len(plan[1])))


@lru_cache(4000)
def made_of(house, sums):
    """All sums that combinations of some sums make."""
    found = {(0,) * house[1]}
    for one in sums:
        found = {tuple((left + number * right) % house[0] for left, right in zip(made, one, strict=True))
                 for made in found for number in range(house[0])}
    return found


def give(plan, lot, index):
    """Whether the rows of some tells give the sum of a call."""
    return asked(plan, index) in made_of(plan[0], tuple(asked(plan, other) for other in lot))


def ahead(plan, index):
    """The tells that are AHEAD of a call."""
    return tuple(other for other in tells(plan) if oracle.ahead(plan, other, index))


def not_behind(plan, index):
    """The other tells that a call is not AHEAD of."""
    return tuple(other for other in tells(plan) if other != index and not oracle.ahead(plan, index, other))


def a_known_by(plan, index, thing):
    """Whether any value is a dict as [31] says of known_by."""
    if type(thing) is not dict or not all(type(key) is int and key in ahead(plan, index) for key in thing):
        return False
    if not all(oracle.a_number(plan[0][0], number) and number != 0 for number in thing.values()):
        return False
    rows = [plan[1][other][0][1:] for other in thing]
    return oracle.row_of(plan[0], rows, list(thing.values()))[0] == asked(plan, index)


def an_open_by(plan, index, thing):
    """Whether any value is a tuple as [31] says of open_by."""
    if not oracle.a_sum(plan[0], thing) or oracle.total(plan[0], thing, asked(plan, index)) == 0:
        return False
    return all(oracle.total(plan[0], thing, asked(plan, other)) == 0 for other in not_behind(plan, index))


def new_in(answers):
    """The LOT of the NEW calls of a run."""
    return tuple(index for index, answer in enumerate(answers) if answer == "new")


def gone_on(plan, lot):
    """The calls taken by the words of [10], always the least one, and the LOT of the others."""
    taken = []
    while True:
        free = [index for index in range(len(plan[1])) if index not in taken and can_take(plan, lot, taken, index)]
        if not free:
            return tuple(taken), tuple(index for index in range(len(plan[1])) if index not in taken)
        taken.append(free[0])


def can_take(plan, lot, taken, index):
    """Whether a call can be taken behind the taken ones."""
    if any(oracle.ahead(plan, other, index) and other not in taken for other in range(len(plan[1]))):
        return False
    return (plan[1][index][0][0] == "ask" or index in lot
            or give(plan, tuple(other for other in lot if other in taken), index))


def least_waits(plan, index):
    """The least LOTS of the tells that are neither AHEAD of a call nor behind it that are enough for its sum."""
    others = tuple(other for other in not_behind(plan, index) if other not in ahead(plan, index))
    enough = [lot for lot in told.lots(others) if give(plan, ahead(plan, index) + lot, index)]
    return sorted(lot for lot in enough if not any(set(part) < set(lot) for part in enough))
