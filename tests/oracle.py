"""The definitions of the document told again in the plainest way: all that there is is tried out."""

from itertools import permutations, product

ANSWERS = ("new", "known", "clash")


def an_integer(thing):
    return type(thing) is int


def a_tuple(thing, many):
    return type(thing) is tuple and len(thing) == many


def a_number(prime, thing):
    return type(thing) is int and thing in range(prime)


def a_house(thing):
    return (a_tuple(thing, 2) and type(thing[0]) is int and thing[0] in (2, 3, 5, 7)
            and type(thing[1]) is int and not thing[1] < 0)


def a_sum(house, thing):
    return a_tuple(thing, house[1]) and all(a_number(house[0], part) for part in thing)


def a_row(house, thing):
    return a_tuple(thing, 2) and a_sum(house, thing[0]) and a_number(house[0], thing[1])


def a_deed(house, thing):
    if type(thing) is not tuple or not thing or type(thing[0]) is not str:
        return False
    if thing[0] == "tell":
        return len(thing) == 3 and a_sum(house, thing[1]) and a_number(house[0], thing[2])
    return thing[0] == "ask" and len(thing) == 2 and a_sum(house, thing[1])


def a_call(house, thing):
    if not a_tuple(thing, 4) or not a_deed(house, thing[0]) or type(thing[1]) is not int:
        return False
    deed, begin, end, answer = thing
    if end is not None and (type(end) is not int or end < begin):
        return False
    if answer is None:
        return end is None or deed[0] == "ask"
    if deed[0] == "tell":
        return type(answer) is str and answer in ANSWERS
    return a_number(house[0], answer) or (type(answer) is str and answer == "open")


def a_history(thing):
    return (a_tuple(thing, 2) and a_house(thing[0]) and type(thing[1]) is tuple
            and all(a_call(thing[0], call) for call in thing[1]))


def a_planned_call(house, thing):
    return (a_tuple(thing, 3) and a_deed(house, thing[0]) and type(thing[1]) is int
            and type(thing[2]) is int and not thing[2] < thing[1])


def a_plan(thing):
    if not (a_tuple(thing, 2) and a_house(thing[0]) and type(thing[1]) is tuple):
        return False
    if not all(a_planned_call(thing[0], call) for call in thing[1]):
        return False
    rows = [deed[1:] for deed, _, _ in thing[1] if deed[0] == "tell"]
    return any(all_hold(thing[0], rows, world) for world in worlds(thing[0]))


def a_lot(many, thing):
    if type(thing) is not tuple or not all(type(index) is int for index in thing):
        return False
    return all(index in range(many) for index in thing) and list(thing) == sorted(set(thing))


def a_claim(history, thing):
    many = len(history[1])
    if not a_tuple(thing, 2) or type(thing[0]) is not int or thing[0] not in range(many):
        return False
    return a_lot(many, thing[1]) and len(thing[1]) > 0 and thing[0] not in thing[1]


def worlds(house):
    """All worlds of a house; all its sums, too."""
    return list(product(range(house[0]), repeat=house[1]))


def all_rows(house):
    """All rows of a house."""
    return [(one, number) for one in worlds(house) for number in range(house[0])]


def total(house, world, one):
    """What a sum comes to in a world."""
    found = 0
    for factor, number in zip(one, world, strict=True):
        found += factor * number
    return found % house[0]


def all_hold(house, rows, world):
    """Whether all rows hold in a world."""
    return all(total(house, world, one) == number for one, number in rows)


def row_of(house, rows, numbers):
    """The row that a combination makes."""
    factors = [0] * house[1]
    number = 0
    for (one, worth), many in zip(rows, numbers, strict=True):
        factors = [factor + many * other for factor, other in zip(factors, one, strict=True)]
        number += many * worth
    return (tuple(factor % house[0] for factor in factors), number % house[0])


def all_made(house, rows):
    """The list of (combination, row that it makes), for all combinations."""
    found = product(range(house[0]), repeat=len(rows))
    return [(numbers, row_of(house, rows, numbers)) for numbers in found]


def given(house, rows):
    """The dict from each sum that independent rows give to (number, combination)."""
    found = {}
    for numbers, (one, number) in all_made(house, rows):
        assert one not in found, "the rows are not independent"
        found[one] = (number, numbers)
    return found


class Led:
    """A store that is led by the words of [2]."""

    def __init__(self, house):
        self.house, self.rows = house, ()

    def do(self, deed):
        """The answer to a deed."""
        number, _ = given(self.house, self.rows).get(deed[1], (None, None))
        if deed[0] == "ask":
            return "open" if number is None else number
        if number is None:
            self.rows += (deed[1:],)
            return "new"
        return "known" if number == deed[2] else "clash"


def ahead(what, one, other):
    """Whether a call is AHEAD of another one, of a history or a plan."""
    end = what[1][one][2]
    return end is not None and end < what[1][other][1]


def an_order(what, thing):
    if type(thing) is not tuple or not all(type(index) is int for index in thing):
        return False
    if sorted(thing) != list(range(len(what[1]))):
        return False
    return all(thing.index(one) < thing.index(other) for one in thing for other in thing if ahead(what, one, other))


def orders(what):
    """All orders of a history or a plan."""
    return [found for found in permutations(range(len(what[1]))) if an_order(what, found)]


def walked(what, order):
    """(answers, rows): the answer to each call, by its index, and the rows ahead of each place, and at the end."""
    led, answers, rows = Led(what[0]), {}, [()]
    for index in order:
        answers[index] = led.do(what[1][index][0])
        rows.append(led.rows)
    return tuple(answers[index] for index in range(len(what[1]))), rows


def a_weaving(history, thing):
    return an_order(history, thing) and walked(history, thing)[0] == tuple(call[3] for call in history[1])
