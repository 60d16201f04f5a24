"""[12], with the definitions of [2] and [10]."""

import random
import unittest

from freshtold import forms
from freshtold.errors import StoreError, Wrong
from tests import oracle
from tests.values import near, odd_values

HOUSES = [(prime, many) for prime in (2, 3, 5, 7) for many in (0, 1, 2, 3, 8)]
TELL, ASK = ("tell", (1, 0), 2), ("ask", (2, 1))
STRETCHES = [(0, 0), (-5, -5), (-5, -4), (-1, 0), (0, 9), (10 ** 11, 10 ** 11), (-10 ** 39, 10 ** 39)]
NAMES = ["is_integer", "is_house", "is_sum", "is_row", "is_world", "is_deed", "is_call", "is_history", "is_plan",
         "is_lot", "is_claim", "is_whole"]


def call_of(deed, begin=0, end=4, answer="open"):
    return (deed, begin, end, answer)


HISTORIES = [
    ((2, 0), ()),
    ((7, 3), ()),
    ((2, 0), ((("tell", (), 1), -3, 0, "clash"), (("ask", ()), 0, 0, 0))),
    ((2, 1), ((("tell", (1,), 1), 0, None, None), (("ask", (1,)), 1, 2, None), (("ask", (0,)), -4, -4, 0))),
    ((3, 2), ((TELL, 0, 3, "new"), (ASK, 2, 6, 1), (TELL, 1, 4, "known"), (ASK, 0, None, "open"))),
]
PLANS = [
    ((2, 0), ()),
    ((5, 2), ()),
    ((2, 0), ((("tell", (), 0), -3, 0), (("ask", ()), 0, 0))),
    ((3, 2), ((("tell", (1, 0), 1), 0, 2), (("tell", (2, 0), 2), 1, 6), (("ask", (1, 1)), -4, 5))),
    ((2, 2), ((("tell", (1, 1), 1), 0, 2), (("tell", (1, 0), 0), 0, 2), (("tell", (0, 1), 1), 0, 2))),
]


class FormCase(unittest.TestCase):
    def check(self, wanted, name, *told):
        """What a function returns is the very truth, and it changes nothing that it is passed."""
        before = repr(told)
        self.assertIs(getattr(forms, name)(*told), wanted, (name, before[:300]))
        self.assertEqual(repr(told), before, name)

    def check_each(self, wanted, name, told, things):
        for thing in things:
            self.check(wanted, name, *told, thing)

    def check_alike(self, oracle_of, name, told, things):
        """For each thing the function and the oracle tell the same, and both truths occur or are not asked for."""
        for thing in things:
            self.check(bool(oracle_of(*told, thing)), name, *told, thing)


class TestInterface(unittest.TestCase):
    def test_all_are_defined_in_the_file(self):
        for name in NAMES:
            self.assertEqual(getattr(forms, name).__module__, "freshtold.forms")


class TestIntegers(FormCase):
    def test_integers(self):
        self.check_each(True, "is_integer", (), [0, 1, -1, 7, 10 ** 9, 10 ** 39, -10 ** 39])

    def test_truths_are_none(self):
        self.check_each(False, "is_integer", (), [True, False])

    def test_other_kinds_are_none(self):
        self.check_each(False, "is_integer", (), [
            None, "", "0", "1", (), (0,), [], [1], {}, {0: 0}, Wrong(0), StoreError(),
        ])

    def test_any_value(self):
        self.check_alike(oracle.an_integer, "is_integer", (), odd_values())


class TestHouses(FormCase):
    def test_houses(self):
        self.check_each(True, "is_house", (), HOUSES)

    def test_the_bound_of_unknowns_is_not_checked(self):
        self.check_each(True, "is_house", (), [(2, 9), (3, 24), (7, 100)])

    def test_other_primes_and_numbers(self):
        for prime in (-7, -2, -1, 0, 1, 4, 6, 8, 9, 10, 11, 13, 10 ** 39):
            self.check(False, "is_house", (prime, 1))

    def test_less_than_no_unknowns(self):
        self.check_each(False, "is_house", (), [(2, -1), (7, -10 ** 39)])

    def test_truths(self):
        self.check_each(False, "is_house", (), [(2, True), (2, False), (True, 1), (False, 0)])

    def test_parts(self):
        self.check_each(False, "is_house", (), [(), (2,), (2, 1, 0), (2, 1, None), ((2, 1),), (1, 2)])

    def test_kinds(self):
        self.check_each(False, "is_house", (), [
            None, [2, 1], {2: 1}, {0: 2, 1: 1}, "21", 2, (2, "1"), ("2", 1), (2, None), (None, 1), (2, (1,)),
            ((2,), 1), (2, [1]), (2, {}),
        ])

    def test_any_value(self):
        self.check_alike(oracle.a_house, "is_house", (), odd_values())

    def test_one_part_otherwise(self):
        for house in HOUSES:
            self.check_alike(oracle.a_house, "is_house", (), near(house))


class TestSumsRowsWorlds(FormCase):
    def test_sums_and_worlds(self):
        for house in [(2, 0), (2, 1), (2, 3), (3, 2), (5, 2), (7, 2)]:
            for name in ("is_sum", "is_world"):
                self.check_each(True, name, (house,), oracle.worlds(house))

    def test_rows(self):
        for house in [(2, 0), (2, 3), (3, 2), (5, 1), (7, 0), (7, 1)]:
            self.check_each(True, "is_row", (house,), oracle.all_rows(house))

    def test_many_unknowns(self):
        for name in ("is_sum", "is_world"):
            self.check(True, name, (7, 100), (6,) * 100)
            self.check(False, name, (7, 100), (6,) * 99)
            self.check(False, name, (7, 100), (6,) * 101)
            self.check(False, name, (7, 100), (6,) * 99 + (7,))
        self.check(True, "is_row", (7, 100), ((6,) * 100, 6))

    def test_numbers_out_of_reach(self):
        for prime in (2, 3, 5, 7):
            for bad in (-1, prime, prime + 1, -prime, 10 ** 39):
                for name in ("is_sum", "is_world"):
                    self.check_each(False, name, ((prime, 3),), [(bad, 0, 0), (0, bad, 0), (0, 0, bad)])
                    self.check(False, name, (prime, 1), (bad,))
                self.check_each(False, "is_row", ((prime, 1),), [((bad,), 0), ((0,), bad)])
                self.check(False, "is_row", (prime, 0), ((), bad))
            for name in ("is_sum", "is_world"):
                self.check(True, name, (prime, 3), (prime - 1, 0, prime - 1))
            self.check(True, "is_row", (prime, 1), ((prime - 1,), prime - 1))

    def test_truths(self):
        for name in ("is_sum", "is_world"):
            self.check_each(False, name, ((2, 2),), [(True, 0), (1, False), (True, False)])
        self.check_each(False, "is_row", ((2, 2),), [
            ((True, 0), 1), ((1, False), 1), ((1, 0), True), ((1, 0), False),
        ])

    def test_kinds_and_parts(self):
        for name in ("is_sum", "is_world"):
            self.check_each(False, name, ((3, 2),), [
                None, [1, 0], {0: 1, 1: 0}, "10", (1,), (1, 0, 0), (), (1, "0"), (1, None), (1, (0,)),
                (1, [0]), ((1, 0),), 1,
            ])
            self.check_each(False, name, ((3, 0),), [None, [], {}, "", 0, (0,), ((),), False])
        self.check_each(False, "is_row", ((3, 2),), [
            None, [(1, 0), 1], {(1, 0): 1}, ((1, 0),), ((1, 0), 1, 1), ([1, 0], 1), ((1, 0), "1"),
            ((1, 0), (1,)), ((1, 0), None), (1, 0, 1), (1, (1, 0)), ((1, 0), [1]), (),
        ])
        self.check_each(False, "is_row", ((3, 0),), [(), ((),), ([], 0), (None, 0), ({}, 0), ("", 0), ((), 0, 0), 0])

    def test_any_value(self):
        for house in HOUSES:
            self.check_alike(oracle.a_sum, "is_sum", (house,), odd_values())
            self.check_alike(oracle.a_sum, "is_world", (house,), odd_values())
            self.check_alike(oracle.a_row, "is_row", (house,), odd_values())

    def test_one_part_otherwise(self):
        for house in HOUSES:
            one = tuple(at % house[0] for at in range(house[1]))
            self.check_alike(oracle.a_sum, "is_sum", (house,), [one] + near(one))
            self.check_alike(oracle.a_sum, "is_world", (house,), [one] + near(one))
            row = (one, house[0] - 1)
            self.check_alike(oracle.a_row, "is_row", (house,), [row] + near(row))


class TestDeeds(FormCase):
    def test_deeds(self):
        for house in [(2, 0), (2, 2), (3, 2), (5, 1), (7, 1)]:
            self.check_each(True, "is_deed", (house,), [("ask", one) for one in oracle.worlds(house)])
            self.check_each(True, "is_deed", (house,), [("tell",) + row for row in oracle.all_rows(house)])

    def test_words(self):
        for word in ("ask", "new", "", "tel", "tells", "Tell", "TELL", None, 0, True, ("tell",), ["tell"], {}):
            self.check(False, "is_deed", (3, 2), (word, (1, 0), 2))
        for word in ("tell", "open", "", "as", "asks", "Ask", "ASK", None, 0, True, ("ask",), ["ask"], {}):
            self.check(False, "is_deed", (3, 2), (word, (1, 0)))

    def test_parts(self):
        self.check_each(False, "is_deed", ((3, 2),), [
            (), ("tell",), ("ask",), ("tell", (1, 0)), ("ask", (1, 0), 0), ("tell", (1, 0), 2, 0),
            ("ask", (1, 0), None), ("tell", 1, 0, 2), ("ask", 1, 0), ("tell", ((1, 0), 2)),
            ("tell", 2, (1, 0)),
        ])

    def test_kinds(self):
        self.check_each(False, "is_deed", ((3, 2),), [
            None, "ask", "tell", ["ask", (1, 0)], ["tell", (1, 0), 2], ("ask", [1, 0]), ("tell", [1, 0], 2),
            {"ask": (1, 0)}, ("tell", (1, 0), "2"), ("tell", (1, 0), None), ("tell", (1, 0), True),
            ("ask", (True, 0)),
        ])

    def test_any_value_and_one_part_otherwise(self):
        for house in HOUSES:
            one = tuple((at + 1) % house[0] for at in range(house[1]))
            deeds = [("tell", one, 1), ("ask", one)]
            for things in [odd_values(), deeds, near(deeds[0]), near(deeds[1])]:
                self.check_alike(oracle.a_deed, "is_deed", (house,), things)


class TestCalls(FormCase):
    def test_answers_of_a_tell(self):
        for end in (0, 4, None):
            for answer in ("new", "known", "clash"):
                self.check(True, "is_call", (3, 2), call_of(TELL, 0, end, answer))
            for answer in ("open", 0, 1, 2, 3, -1, True, False, "", "New", "None", "-", "0", (), ("new",), ["new"], {}):
                self.check(False, "is_call", (3, 2), call_of(TELL, 0, end, answer))

    def test_answers_of_an_ask(self):
        for end in (0, 4, None):
            for answer in (0, 1, 2, "open"):
                self.check(True, "is_call", (3, 2), call_of(ASK, 0, end, answer))
            for answer in ("new", "known", "clash", 3, -1, True, False, "", "Open", "-", "0", (), (0,), [0], {}):
                self.check(False, "is_call", (3, 2), call_of(ASK, 0, end, answer))

    def test_answers_are_counted_by_the_prime(self):
        for prime in (2, 3, 5, 7):
            deed = ("ask", (1,))
            self.check_each(True, "is_call", ((prime, 1),), [call_of(deed, 0, 0, number) for number in range(prime)])
            for number in (-prime, -1, prime, prime + 1):
                self.check(False, "is_call", (prime, 1), call_of(deed, 0, 0, number))

    def test_answers_that_are_none(self):
        self.check(True, "is_call", (3, 2), call_of(TELL, 0, None, None))
        self.check(True, "is_call", (3, 2), call_of(ASK, 0, None, None))
        self.check(True, "is_call", (3, 2), call_of(ASK, 0, 4, None))
        self.check(True, "is_call", (3, 2), call_of(ASK, 0, 0, None))
        self.check(False, "is_call", (3, 2), call_of(TELL, 0, 4, None))
        self.check(False, "is_call", (3, 2), call_of(TELL, 0, 0, None))

    def test_stretches(self):
        for deed, answers in ((TELL, ("new",)), (ASK, (0, None))):
            for answer in answers:
                for begin, end in STRETCHES:
                    self.check(True, "is_call", (3, 2), call_of(deed, begin, end, answer))
                for begin, end in [(0, -1), (1, 0), (-4, -5), (10 ** 11, 10 ** 11 - 1), (10 ** 39, -10 ** 39)]:
                    self.check(False, "is_call", (3, 2), call_of(deed, begin, end, answer))

    def test_begins(self):
        for begin in (-10 ** 39, -1, 0, 7, 10 ** 39):
            for answer in ("new", None):
                self.check(True, "is_call", (3, 2), call_of(TELL, begin, None, answer))
            for answer in (2, "open", None):
                self.check(True, "is_call", (3, 2), call_of(ASK, begin, None, answer))

    def test_begins_and_ends_of_other_kinds(self):
        for bad in (None, True, False, "0", "", "never", (), (0,), [0], {}, Wrong(0)):
            for end in (4, None):
                self.check(False, "is_call", (3, 2), call_of(TELL, bad, end, "new"))
                self.check(False, "is_call", (3, 2), call_of(ASK, bad, end, None))
                self.check(False, "is_call", (3, 2), call_of(ASK, bad, end, "open"))
            if bad is not None:
                self.check(False, "is_call", (3, 2), call_of(TELL, 0, bad, "new"))
                self.check(False, "is_call", (3, 2), call_of(ASK, 0, bad, 1))
                self.check(False, "is_call", (3, 2), call_of(ASK, -3, bad, None))
                self.check(False, "is_call", (3, 2), call_of(TELL, 0, bad, None))

    def test_parts_and_kinds(self):
        call = call_of(ASK)
        self.check_each(False, "is_call", ((3, 2),), [
            (), call[:1], call[:2], call[:3], call[1:], call + (0,), call + (None,), list(call),
            dict(enumerate(call)), None, "ask", (call,), call[::-1], (list(ASK),) + call[1:],
            ASK + (0, 4, "open"), (None,) + call[1:],
        ])
        self.check(False, "is_call", (3, 1), call)
        self.check(False, "is_call", (2, 2), call)

    def test_any_value(self):
        for house in HOUSES:
            self.check_alike(oracle.a_call, "is_call", (house,), odd_values())

    def test_one_part_otherwise(self):
        for house, calls in HISTORIES:
            for call in calls:
                self.check(True, "is_call", house, call)
                self.check_alike(oracle.a_call, "is_call", (house,), near(call))


class TestHistories(FormCase):
    def test_histories(self):
        self.check_each(True, "is_history", (), HISTORIES)

    def test_no_calls(self):
        self.check_each(True, "is_history", (), [(house, ()) for house in HOUSES])

    def test_the_bounds_are_not_checked(self):
        call = (("ask", (0, 1)), -10 ** 30, 10 ** 39, 1)
        for many in (25, 100):
            self.check(True, "is_history", ((2, 2), (call,) * many))
            self.check(False, "is_history", ((2, 2), (call,) * many + ((("ask", (0, 2)), 0, 1, 1),)))
        self.check(True, "is_history", ((7, 100), ((("tell", (6,) * 100, 6), 0, 10 ** 20, "new"),) * 20))

    def test_each_call_counts(self):
        good, bad = (ASK, 0, 1, 1), (ASK, 1, 0, 1)
        for calls in [(bad,), (bad, good), (good, bad), (good, bad, good), (good, good, bad)]:
            self.check(False, "is_history", ((3, 2), calls))
        self.check(True, "is_history", ((3, 2), (good, good, good)))

    def test_kinds_and_parts(self):
        house, calls = HISTORIES[4]
        self.check_each(False, "is_history", (), [
            (), (house,), (calls,), (calls, house), (house, calls, ()), (house,) + calls, [house, calls],
            (list(house), calls), (house, list(calls)), {house: calls}, (house, None), (None, calls),
            (house, {}), (house, ""), (house, 0), (house, calls[0]), ((4, 2), calls), ((2, 2), calls),
            ((3, 1), calls), ((3, True), ()), ((3, -1), ()), None, "house", ((), ()),
        ])

    def test_plans_are_none(self):
        self.check_each(False, "is_history", (), [plan for plan in PLANS if plan[1]])

    def test_any_value_and_one_part_otherwise(self):
        self.check_alike(oracle.a_history, "is_history", (), odd_values())
        for history in HISTORIES:
            self.check_alike(oracle.a_history, "is_history", (), near(history))


class TestPlans(FormCase):
    def test_plans(self):
        self.check_each(True, "is_plan", (), PLANS)

    def test_no_calls(self):
        self.check_each(True, "is_plan", (), [(house, ()) for house in HOUSES + [(2, 100)]])

    def test_told_rows_that_hold_in_no_world(self):
        for prime in (2, 3, 5, 7):
            house = (prime, 2)
            told = [("tell", (1, 0), 1), ("tell", (1, 1), 0), ("tell", (0, 1), prime - 1)]
            self.check(True, "is_plan", (house, tuple((deed, 0, 0) for deed in told)))
            told[2] = ("tell", (0, 1), 0)
            self.check(False, "is_plan", (house, tuple((deed, 0, 0) for deed in told)))
            self.check(False, "is_plan", (house, tuple((deed, 0, 0) for deed in told[::-1])))
            self.check(True, "is_plan", (house, tuple((deed, 0, 0) for deed in told[:2])))
            self.check(True, "is_plan", (house, tuple((deed, 0, 0) for deed in told[1:])))

    def test_empty_sums_and_no_unknowns(self):
        for prime in (2, 3, 5, 7):
            self.check(True, "is_plan", ((prime, 0), ((("tell", (), 0), 0, 0),)))
            self.check(True, "is_plan", ((prime, 2), ((("tell", (0, 0), 0), 0, 0),)))
            for number in range(1, prime):
                self.check(False, "is_plan", ((prime, 0), ((("tell", (), number), 0, 0),)))
                self.check(False, "is_plan", ((prime, 2), ((("tell", (0, 0), number), 0, 0),)))
                self.check(False, "is_plan", ((prime, 2), ((("ask", (0, 0)), 0, 0), (("tell", (0, 0), number), 9, 9))))

    def test_what_is_told_counts_and_not_what_is_asked_or_when(self):
        rows = [("tell", (1, 0), 1), ("ask", (1, 0)), ("tell", (1, 0), 0)]
        self.check(False, "is_plan", ((2, 2), tuple((deed, at, at) for at, deed in enumerate(rows))))
        self.check(False, "is_plan", ((2, 2), tuple((deed, -at, 5 - at) for at, deed in enumerate(rows))))
        self.check(True, "is_plan", ((2, 2), tuple((deed, at, at) for at, deed in enumerate(rows[:2]))))
        self.check(True, "is_plan", ((2, 2), tuple((deed, at, at) for at, deed in enumerate(rows[1:]))))

    def test_all_pairs_of_told_rows(self):
        for house in [(2, 0), (3, 0), (2, 1), (3, 1), (5, 1), (2, 2)]:
            rows = oracle.all_rows(house)
            for one in rows:
                for other in rows:
                    plan = (house, ((("tell",) + one, 0, 1), (("tell",) + other, 0, 1)))
                    self.check(oracle.a_plan(plan), "is_plan", plan)

    def test_several_told_rows(self):
        chosen = random.Random(12)
        seen = {True: 0, False: 0}
        for house in [(2, 3), (3, 2), (5, 2), (7, 2)]:
            for _ in range(60):
                rows = chosen.sample(oracle.all_rows(house), 3)
                plan = (house, tuple((("tell",) + row, 0, 1) for row in rows))
                wanted = oracle.a_plan(plan)
                seen[wanted] += 1
                self.check(wanted, "is_plan", plan)
        self.assertGreater(min(seen.values()), 20)

    def test_the_bounds_are_not_checked(self):
        house = (7, 100)
        told = tuple((("tell", (0,) * at + (3,) + (1,) * (99 - at), at % 7), -10 ** 30, 10 ** 39) for at in range(25))
        self.check(True, "is_plan", (house, told))
        self.check(True, "is_plan", (house, told + told[3:4]))
        worse = (("tell", told[3][0][1], 4), 0, 0)
        self.check(False, "is_plan", (house, told + (worse,)))
        self.check(True, "is_plan", ((2, 1), ((("ask", (1,)), 0, 10 ** 12),) * 200))
        self.check(True, "is_plan", ((2, 1), ((("tell", (1,), 1), 0, 10 ** 12),) * 200))

    def test_stretches(self):
        for begin, end in STRETCHES:
            self.check(True, "is_plan", ((3, 2), ((TELL, begin, end), (ASK, begin, end))))
        for begin, end in [(0, -1), (1, 0), (-4, -5), (0, None), (None, 0), (None, None), (0, True), (False, 0)]:
            self.check(False, "is_plan", ((3, 2), ((TELL, begin, end),)))
            self.check(False, "is_plan", ((3, 2), ((ASK, begin, end),)))

    def test_kinds_and_parts(self):
        house, calls = PLANS[3]
        self.check_each(False, "is_plan", (), [
            (), (house,), (calls, house), (house, calls, ()), (house,) + calls, [house, calls],
            (list(house), calls), (house, list(calls)), {house: calls}, (house, None), (None, calls),
            (house, {}), (house, ""), (house, calls[0]), ((6, 2), calls), ((3, 1), calls), ((3, True), ()),
            None, "house", ((), ()), (house, (calls[0] + ("new",),)), (house, (calls[0][:2],)),
        ])

    def test_histories_are_none(self):
        self.check_each(False, "is_plan", (), [history for history in HISTORIES if history[1]])

    def test_any_value_and_one_part_otherwise(self):
        small = [thing for thing in odd_values() if not (isinstance(thing, tuple) and thing == ((2, 100), ()))]
        self.check_alike(oracle.a_plan, "is_plan", (), small)
        for plan in PLANS:
            self.check_alike(a_small_plan, "is_plan", (), near(plan))


def a_small_plan(thing):
    """The oracle tries all worlds: a house without calls may have too many of them for that."""
    if oracle.a_tuple(thing, 2) and oracle.a_house(thing[0]) and thing[1] == ():
        return type(thing[1]) is tuple
    return oracle.a_plan(thing)


class TestLots(FormCase):
    def test_lots(self):
        self.check_each(True, "is_lot", (4,), [(), (0,), (3,), (0, 1), (0, 3), (1, 2, 3), (0, 1, 2, 3)])

    def test_the_empty_lot(self):
        self.check_each(True, "is_lot", (0,), [()])
        self.check_each(False, "is_lot", (0,), [(0,), (1,), (-1,), [], {}, "", None, False, 0, ((),)])

    def test_not_ascending(self):
        self.check_each(False, "is_lot", (4,), [(1, 0), (0, 2, 1), (3, 2, 1, 0), (2, 3, 0)])

    def test_a_member_twice(self):
        self.check_each(False, "is_lot", (4,), [(0, 0), (3, 3), (0, 1, 1), (0, 0, 1), (1, 2, 2, 3)])

    def test_not_below_many(self):
        self.check_each(False, "is_lot", (4,), [
            (4,), (0, 4), (0, 1, 2, 3, 4), (10 ** 39,), (-1,), (-1, 0), (-4, -3), (-10 ** 39, 2),
        ])
        for many in range(6):
            self.check(True, "is_lot", many, tuple(range(many)))
            self.check(False, "is_lot", many, tuple(range(many + 1)))

    def test_more_than_24(self):
        self.check(True, "is_lot", 100, tuple(range(100)))
        self.check(False, "is_lot", 99, tuple(range(100)))

    def test_kinds(self):
        self.check_each(False, "is_lot", (4,), [
            [], [0], [0, 1], {}, {0: 1}, {0: 0, 1: 1}, "", "01", None, True, 0, 1, (True,), (False,),
            (0, True), (False, 1), (None,), ("0",), (0, "1"), ((0,),), ([0],), (0, (1,)), (0, None), (0, {}),
            (Wrong(0),),
        ])

    def test_any_value_and_one_part_otherwise(self):
        for many in (0, 1, 2, 3, 5, 1000, 1001):
            self.check_alike(oracle.a_lot, "is_lot", (many,), odd_values())
        for many in (4, 5):
            for lot in [(), (0,), (3,), (1, 2), (0, 1, 2, 3)]:
                self.check_alike(oracle.a_lot, "is_lot", (many,), near(lot))


class TestClaims(FormCase):
    def history(self, many):
        return ((2, 1), ((("ask", (1,)), 0, None, None),) * many)

    def test_all_small_claims(self):
        for many in range(5):
            things = [(index, lot) for index in range(-1, many + 1) for lot in self.small_lots(many + 1)]
            self.check_alike(oracle.a_claim, "is_claim", (self.history(many),), things)

    def small_lots(self, many):
        return [tuple(at for at in range(many) if bits >> at & 1) for bits in range(1 << many)]

    def test_claims(self):
        self.check_each(True, "is_claim", (self.history(3),), [
            (0, (1,)), (0, (2,)), (0, (1, 2)), (1, (0,)), (1, (0, 2)), (2, (0, 1)),
        ])

    def test_the_empty_lot(self):
        self.check_each(False, "is_claim", (self.history(3),), [(0, ()), (2, ())])

    def test_the_index_in_the_lot(self):
        self.check_each(False, "is_claim", (self.history(3),), [
            (0, (0,)), (0, (0, 1)), (1, (0, 1)), (2, (0, 1, 2)), (2, (2,)),
        ])

    def test_indexes_out_of_reach(self):
        self.check_each(False, "is_claim", (self.history(3),), [
            (3, (0,)), (-1, (0,)), (0, (3,)), (0, (-1,)), (0, (1, 3)), (10 ** 39, (0,)),
        ])

    def test_no_calls_and_one(self):
        for many in (0, 1):
            self.check_each(False, "is_claim", (self.history(many),), [
                (0, ()), (0, (0,)), (0, (1,)), (1, (0,)), (0, (-1,)), (),
            ])

    def test_lots_that_are_none(self):
        self.check_each(False, "is_claim", (self.history(4),), [
            (0, (2, 1)), (0, (1, 1)), (0, [1]), (0, 1), (0, None), (0, {1: 1}), (0, "1"), (0, (True,)),
            (0, ("1",)), (2, (False,)), (0, ((1,),)),
        ])

    def test_kinds_and_parts(self):
        self.check_each(False, "is_claim", (self.history(3),), [
            None, "", (), (0,), ((1,),), (0, 1), (0, 1, 2), (0, (1,), ()), [0, (1,)], {0: (1,)},
            (True, (0,)), (False, (1,)), ("0", (1,)), (None, (1,)), ((0,), (1,)), ([0], (1,)), ((1,), 0),
            ({}, (1,)),
        ])

    def test_other_histories(self):
        for history in HISTORIES:
            self.check_alike(oracle.a_claim, "is_claim", (history,), odd_values())

    def test_any_value_and_one_part_otherwise(self):
        for many in (0, 1, 2, 3, 5, 30):
            self.check_alike(oracle.a_claim, "is_claim", (self.history(many),), odd_values())
        for claim in [(0, (1,)), (2, (0, 1)), (1, (0, 2, 3))]:
            self.check_alike(oracle.a_claim, "is_claim", (self.history(4),), [claim] + near(claim))


class TestWhole(FormCase):
    def test_whole(self):
        self.check(True, "is_whole", ((2, 0), ()))
        self.check(True, "is_whole", ((2, 1), ((("ask", (1,)), 0, 1, 0),)))
        self.check(True, "is_whole", ((2, 1), ((("ask", (1,)), 0, None, 0), (("ask", (1,)), 0, None, "open"))))
        deed = ("tell", (1,), 0)
        self.check(True, "is_whole", ((2, 1), ((deed, 0, None, "new"), (deed, 0, 3, "known"), (deed, 0, 3, "clash"))))
        self.check(True, "is_whole", HISTORIES[4])

    def test_not_whole(self):
        self.check(False, "is_whole", ((2, 1), ((("ask", (1,)), 0, 1, None),)))
        self.check(False, "is_whole", ((2, 1), ((("ask", (1,)), 0, None, None),)))
        self.check(False, "is_whole", ((2, 1), ((("tell", (1,), 0), 0, None, None),)))

    def test_each_call_counts(self):
        good, bad = (("ask", (1,)), 0, 1, 0), (("ask", (1,)), 0, 1, None)
        for calls in [(bad, good), (good, bad), (good, bad, good), (bad, bad), (good,) * 30 + (bad,)]:
            self.check(False, "is_whole", ((2, 1), calls))
        self.check(True, "is_whole", ((2, 1), (good,) * 31))


class TestTold(FormCase):
    """[3]: equal arguments give equal results, whatever was called before."""

    def answers(self, places):
        house = (3, 2)
        told = {}
        for place in places:
            for name in NAMES[:-1]:
                first = {"is_lot": (3,), "is_claim": (HISTORIES[4],)}.get(name, (house,))
                first = () if name in ("is_integer", "is_house", "is_history", "is_plan") else first
                thing = (odd_values() + near(HISTORIES[1]) + near((0, (1, 2))) + near(PLANS[3]))[place]
                told[place, name] = getattr(forms, name)(*first, thing)
        return told

    def test_asked_again_in_another_order(self):
        places = list(range(0, 200, 3))
        self.assertEqual(self.answers(places), self.answers(places[::-1]))


if __name__ == "__main__":
    unittest.main()
