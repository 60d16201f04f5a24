"""What [2], [7], [8] and the papers say of whole histories, told again: all lots, combinations and orders are tried."""

from functools import lru_cache
from itertools import combinations, permutations, product

from tests import oracle


def lots(members):
    """All ascending tuples of members of an ascending one."""
    return [lot for many in range(len(members) + 1) for lot in combinations(members, many)]


def everything(history):
    return tuple(range(len(history[1])))


def new(history):
    """The indexes of the NEW calls."""
    return tuple(index for index, call in enumerate(history[1]) if call[3] == "new")


def rows(history):
    return tuple(history[1][index][0][1:] for index in new(history))


def asked(history, index):
    """The sum of a call."""
    return history[1][index][0][1]


@lru_cache(4000)
def independent(house, told):
    empty = (0,) * house[1]
    return [numbers for numbers, row in oracle.all_made(house, told) if row[0] == empty] == [(0,) * len(told)]


@lru_cache(4000)
def given(house, told):
    """What independent rows give: the dict from sums to (number, combination)."""
    return oracle.given(house, told)


def reason(history, one):
    """The REASON of a sum; `None` if it has none. The new rows are independent."""
    _, numbers = given(history[0], rows(history)).get(one, (None, None))
    if numbers is None:
        return None
    return {index: number for index, number in zip(new(history), numbers, strict=True) if number}


def leans(history, one, other):
    """Whether a call LEANS on another one."""
    if history[1][one][3] == "new" or history[1][one][3] == "open":
        return False
    return other in (reason(history, asked(history, one)) or {})


def wanted(history, index, number):
    """Whether a call's answer goes with this number for its sum."""
    deed, _, _, answer = history[1][index]
    return {"known": number == deed[-1], "clash": number != deed[-1]}.get(answer, number == answer)


def wanting(history):
    """The indexes of the calls whose answers say something of the number of their sums."""
    return [index for index, call in enumerate(history[1]) if call[3] != "new" and call[3] != "open"]


@lru_cache(4000)
def sound(history):
    if not independent(history[0], rows(history)):
        return False
    numbers = given(history[0], rows(history))
    return all(asked(history, index) in numbers and wanted(history, index, numbers[asked(history, index)][0])
               for index in wanting(history))


def why(history, index, lot):
    """What bars a call of a SOUND history by a lot, in the order of [22]: a list of (kind, what)."""
    found = [("ahead", other) for other in lot if oracle.ahead(history, index, other)]
    found += [("leaned", other) for other in lot if leans(history, other, index)]
    because = reason(history, asked(history, index))
    if history[1][index][3] == "open" and because is not None and set(because) <= set(lot):
        found.append(("whole", tuple(because)))
    return found


@lru_cache(100000)
def barred(history, index, lot):
    return bool(why(history, index, lot))


def stuck(history, lot):
    return lot != () and all(barred(history, index, lot) for index in lot)


@lru_cache(4000)
def greatest_stuck(history, lot):
    """All members of STUCK LOTS within a lot, themselves the greatest one; () if there is none."""
    members = set()
    for part in lots(lot):
        members |= set(part) if stuck(history, part) else set()
    return tuple(sorted(members))


@lru_cache(4000)
def weavings(history):
    """All WEAVINGS, ascending: the store is led on as long as each answer is right."""
    found = []

    def lead(order, told):
        if len(order) == len(history[1]):
            found.append(order)
        for index in everything(history):
            if index in order or any(oracle.ahead(history, other, index) for other in everything(history)
                                     if other not in order):
                continue
            deed, answer = history[1][index][0], history[1][index][3]
            number, _ = given(history[0], told).get(deed[1], (None, None))
            right = {"new": number is None, "open": number is None, "known": number == deed[-1],
                     "clash": number is not None and number != deed[-1]}.get(answer, number == answer)
            if right:
                lead(order + (index,), told + (deed[1:],) if answer == "new" else told)

    lead((), ())
    return found


def claims(many):
    """All CLAIMS of so many calls."""
    found = []
    for index in range(many):
        found += [(index, lot) for lot in lots(tuple(other for other in range(many) if other != index)) if lot]
    return found


def holds(order, claim):
    index, lot = claim
    return any(order.index(index) < order.index(other) for other in lot)


def all_orders(many):
    """All tuples with each call below many once."""
    return list(permutations(range(many)))


def a_hold(history, claim, thing):
    """Whether any value is a HOLD of a claim of a SOUND history."""
    if not oracle.a_lot(len(history[1]), thing) or not {claim[0], *claim[1]} <= set(thing):
        return False
    return all(index in claim[1] or barred(history, index, thing) for index in thing)


def all_holds(history, claim):
    return [lot for lot in lots(everything(history)) if a_hold(history, claim, lot)]


def factors(history, thing):
    """Whether any value is a dict from NEW calls to numbers from 1 to prime - 1."""
    return type(thing) is dict and all(
        type(key) is int and key in new(history) and oracle.a_number(history[0][0], worth) and worth != 0
        for key, worth in thing.items())


def made(history, told):
    """The row that comes of such a dict."""
    return oracle.row_of(history[0], rows(history), [told.get(index, 0) for index in new(history)])


def parting(history, one, thing):
    """Whether any value parts a sum from the sums of all NEW calls."""
    if not oracle.a_sum(history[0], thing):
        return False
    return (oracle.total(history[0], thing, one) != 0
            and all(oracle.total(history[0], thing, row[0]) == 0 for row in rows(history)))


def a_book_paper(history, thing):
    if type(thing) is not tuple or not thing or type(thing[0]) is not str:
        return False
    if thing[0] == "depends":
        return (len(thing) == 2 and factors(history, thing[1]) and len(thing[1]) > 0
                and not any(made(history, thing[1])[0]))
    if thing[0] not in ("gainsaid", "without") or len(thing) != 3:
        return False
    if type(thing[1]) is not int or thing[1] not in wanting(history):
        return False
    if thing[0] == "without":
        return parting(history, asked(history, thing[1]), thing[2])
    if not factors(history, thing[2]):
        return False
    one, number = made(history, thing[2])
    return one == asked(history, thing[1]) and not wanted(history, thing[1], number)


def a_misfit(history, thing):
    if not oracle.a_tuple(thing, 2) or type(thing[0]) is not str:
        return False
    if thing[0] == "book":
        return a_book_paper(history, thing[1])
    return (thing[0] == "stuck" and sound(history) and oracle.a_lot(len(history[1]), thing[1])
            and stuck(history, thing[1]))


def a_known_paper(history, index, one, thing):
    """Whether any value is a KNOWING PAPER of a call and a sum of a SOUND history."""
    if type(thing) is not tuple or not thing or type(thing[0]) is not str:
        return False
    because = reason(history, one)
    if thing[0] == "own":
        return len(thing) == 1 and because is not None and index in because
    if len(thing) != 2:
        return False
    if thing[0] == "without":
        return parting(history, one, thing[1])
    if because is None or index in because:
        return False
    if thing[0] == "last":
        return because != {} and a_hold(history, (index, tuple(because)), thing[1])
    return (thing[0] == "given" and type(thing[1]) is dict and all(type(key) is int for key in thing[1])
            and set(thing[1]) == set(because)
            and all(a_hold(history, (key, (index,)), hold) for key, hold in thing[1].items()))


def given_ahead(history, order, index, one):
    """Whether the store gives a sum just ahead of a call in a weaving."""
    ahead = order[:order.index(index)]
    told = tuple(history[1][other][0][1:] for other in ahead if history[1][other][3] == "new")
    return one in given(history[0], told)


def known(history, index, one):
    """What is known of a sum ahead of a call, told by all weavings."""
    given_so = [given_ahead(history, weaving, index, one) for weaving in weavings(history)]
    return "given" if all(given_so) else "either" if any(given_so) else "open"


def probed(history, moment):
    """The history with one more call, an ask of the EMPTY sum at a moment."""
    return (history[0], history[1] + ((("ask", (0,) * history[0][1]), moment, moment, 0),))


def unanswered(history, word, is_lost):
    """The indexes of the deeds of a sort that are LOST, or are without an answer but have an end."""
    return tuple(index for index, (deed, _, end, answer) in enumerate(history[1])
                 if deed[0] == word and answer is None and (end is None) == is_lost)


def lost_lots(history):
    """All LOTS of LOST tells, ascending."""
    return sorted(lots(unanswered(history, "tell", True)))


def answered(history, answers):
    """The history of the calls that have an answer, their own one or one in a dict."""
    calls = [call[:3] + (answers.get(index, call[3]),) for index, call in enumerate(history[1])]
    return (history[0], tuple(call for call in calls if call[3] is not None))


def filled(history, taken, answers):
    """The history with a lot of LOST tells taken, and with answers of the UNHEARD asks: all of them, or ()."""
    asks = unanswered(history, "ask", False) if answers else ()
    return answered(history, dict.fromkeys(taken, "new") | dict(zip(asks, answers, strict=True)))


@lru_cache(4000)
def fillings(history):
    """All FILLINGS, in the order of [29]: all lots and all answers are tried."""
    found, many = [], len(unanswered(history, "ask", False))
    for taken in lost_lots(history):
        for answers in product([*range(history[0][0]), "open"], repeat=many):
            if weavings(filled(history, taken, answers)):
                found.append((taken, answers))
    return found


def a_filling(history, thing):
    """Whether any value is a FILLING."""
    if not oracle.a_tuple(thing, 2) or not oracle.a_lot(len(history[1]), thing[0]):
        return False
    if not set(thing[0]) <= set(unanswered(history, "tell", True)):
        return False
    if not oracle.a_tuple(thing[1], len(unanswered(history, "ask", False))):
        return False
    if not all(oracle.a_number(history[0][0], answer) or (type(answer) is str and answer == "open")
               for answer in thing[1]):
        return False
    return len(weavings(filled(history, *thing))) > 0


def taken_lots(history):
    """All LOTS of LOST tells that CAN BE TAKEN."""
    return [lot for lot in lost_lots(history) if weavings(filled(history, lot, ()))]


def a_loss_paper(history, thing):
    """Whether any value is a LOSS PAPER."""
    if type(thing) is not dict or not all(oracle.a_lot(len(history[1]), key) for key in thing):
        return False
    if sorted(thing) != lost_lots(history):
        return False
    return all(a_misfit(filled(history, lot, ()), paper) for lot, paper in thing.items())
