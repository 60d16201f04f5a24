"""[18], with the definitions of [2]: orders are gone through one by one, each walked beside a store of the test's."""

import inspect
import random
import unittest
from itertools import permutations

from freshtold import weavings
from freshtold.calls import ahead_of, behind_of
from freshtold.forms import is_history, is_whole
from tests import oracle
from tests.values import near, odd_values

SIGNATURES = {"is_order": ["what", "thing"], "is_weaving": ["history", "thing"], "answers_by": ["what", "order"],
              "store_at": ["what", "order", "place"], "early_order": ["what", "index"],
              "late_order": ["what", "index"], "run_by": ["what", "order"], "first_wrong": ["history", "order"]}
HOUSES = [(2, 0), (2, 1), (2, 2), (3, 1), (3, 2), (5, 1), (7, 1)]
ONE, BOTH, OTHER = (1, 0), (1, 1), (0, 1)

# The history of DOC.md, with all its weavings.
FITTING = ((3, 2), ((("tell", ONE, 1), 0, 3, "new"), (("tell", BOTH, 2), 1, 4, "new"), (("ask", OTHER), 2, 6, 1),
                    (("ask", BOTH), 0, 9, "open")))
WEAVINGS = [(0, 3, 1, 2), (3, 0, 1, 2), (3, 1, 0, 2)]
# Calls with equal begins, one moment, no end, and one ahead of the other.
EQUAL = ((2, 1), ((("ask", (1,)), 5, 9, None), (("tell", (1,), 1), 0, 2, "new"), (("ask", (1,)), 3, None, "open"),
                  (("ask", (0,)), 0, 4, 0), (("tell", (1,), 0), 5, 5, "clash"), (("ask", (1,)), 3, 3, 1),
                  (("tell", (1,), 1), 5, None, None), (("ask", (1,)), -1, 0, 1)))


def some_deed(chosen, house):
    one = tuple(chosen.choice([0, 1, chosen.randrange(house[0])]) for _ in range(house[1]))
    if chosen.randrange(5) < 2:
        return ("ask", one)
    # Most numbers go together, so that there are some that are known.
    number = chosen.choice([sum(one) % house[0]] * 3 + [chosen.randrange(house[0])])
    return ("tell", one, number)


def some_plan(chosen, most, wide):
    """What has the form of a plan, perhaps without peace: few unlike begins, so that some are equal."""
    house, told = chosen.choice(HOUSES), []
    for _ in range(chosen.randrange(most + 1)):
        begin = chosen.randrange(-3, 4)
        told.append((some_deed(chosen, house), begin, begin + chosen.randrange(wide)))
    return (house, tuple(told))


def some_history(chosen, most, wide):
    """A whole history; its answers come of an order, but for one of them, or two, that may be others."""
    plan = some_plan(chosen, most, wide)
    answers = list(oracle.walked(plan, chosen.choice(oracle.orders(plan)))[0])
    for _ in range(chosen.randrange(3)):
        if answers:
            at = chosen.randrange(len(answers))
            is_tell = plan[1][at][0][0] == "tell"
            answers[at] = chosen.choice(["new", "known", "clash"] if is_tell else ["open", *range(plan[0][0])])
    ends = [call[2] if chosen.randrange(6) else None for call in plan[1]]
    told = [(call[0], call[1], end, answer) for call, end, answer in zip(plan[1], ends, answers, strict=True)]
    return (plan[0], tuple(told))


def holed(chosen, history):
    """A history like this one, in which some answers are not told."""
    told = []
    for deed, begin, end, answer in history[1]:
        lacks = chosen.randrange(2) and (end is None or deed[0] == "ask")
        told.append((deed, begin, end, None if lacks else answer))
    return (history[0], tuple(told))


def changed_orders(order):
    """What comes of an order if a call is left out, doubled, put elsewhere, or exchanged with another one."""
    found = [order + (len(order),), order + (-1,), order[::-1], order * 2, order + order[:1], list(order)]
    for at in range(len(order)):
        found += [order[:at] + order[at + 1:], order[:at] + order[at:at + 1] + order[at:], order[at:] + order[:at]]
        for late in range(at):
            other = list(order)
            other[at], other[late] = other[late], other[at]
            found += [tuple(other), order[:at] + order[late:late + 1] + order[at + 1:]]
    return found


class WeavingCase(unittest.TestCase):
    def check(self, wanted, name, *told):
        """What a function returns is this very value, and it changes nothing that it is passed."""
        before = repr(told)
        self.assertEqual(repr(getattr(weavings, name)(*told)), repr(wanted), (name, before[:500]))
        self.assertEqual(repr(told), before)

    def check_walk(self, what, order):
        """All that is told of an order is what a store of the test answers, and holds, in it."""
        answers, rows = oracle.walked(what, order)
        self.check(answers, "answers_by", what, order)
        for place in range(len(order) + 1):
            self.check(rows[place], "store_at", what, order, place)
        told = tuple(call[:3] + (answer,) for call, answer in zip(what[1], answers, strict=True))
        self.check((what[0], told), "run_by", what, order)
        return answers

    def check_answers(self, history, order):
        """Whether an order weaves, and where it goes wrong, is what its walk tells; the place, or None."""
        answers = self.check_walk(history, order)
        wrong = [place for place, index in enumerate(order) if history[1][index][3] != answers[index]]
        self.check(wrong[0] if wrong else None, "first_wrong", history, order)
        self.check(not wrong, "is_weaving", history, order)
        return wrong[0] if wrong else None

    def check_around(self, what):
        """Early and late orders are told by their calls: those ahead, the call, those behind, each by its begin."""
        indexes = range(len(what[1]))
        for index in indexes:
            ahead, behind = ahead_of(what, index), behind_of(what, index)
            others = [other for other in indexes if other != index]
            for name, first in (("early_order", [other for other in others if other in ahead]),
                                ("late_order", [other for other in others if other not in behind])):
                last = [other for other in others if other not in first]
                wanted = self.by_begins(what, first) + (index,) + self.by_begins(what, last)
                self.check(wanted, name, what, index)
                self.assertTrue(oracle.an_order(what, wanted))
                self.check(True, "is_order", what, wanted)

    def by_begins(self, what, indexes):
        found = []
        for begin in sorted(set(what[1][index][1] for index in indexes)):
            found += [index for index in sorted(indexes) if what[1][index][1] == begin]
        return tuple(found)


class TestInterface(unittest.TestCase):
    def test_all_are_defined_in_the_file(self):
        for name, parameters in SIGNATURES.items():
            function = getattr(weavings, name)
            self.assertEqual(function.__module__, "freshtold.weavings")
            self.assertEqual(list(inspect.signature(function).parameters), parameters)


class TestOrders(WeavingCase):
    def check_all(self, what):
        """Each order, and what is none: all permutations, and what comes of one by a change."""
        order = tuple(range(len(what[1])))
        for thing in list(permutations(order)):
            self.check(oracle.an_order(what, thing), "is_order", what, thing)
        for thing in changed_orders(order):
            self.check(oracle.an_order(what, thing), "is_order", what, thing)

    def test_told_whole(self):
        history = ((3, 2), ((("tell", ONE, 1), 0, 3, "new"), (("ask", BOTH), 2, 6, None),
                            (("tell", BOTH, 2), 4, None, None), (("ask", ONE), 1, 9, 1)))
        found = [order for order in permutations(range(4)) if weavings.is_order(history, order)]
        self.assertEqual(found, [order for order in permutations(range(4)) if order.index(0) < order.index(2)])
        chain = ((2, 0), tuple((("ask", ()), -3 * at, 1 - 3 * at) for at in range(4)))
        self.assertEqual([order for order in permutations(range(4)) if weavings.is_order(chain, order)], [(3, 2, 1, 0)])

    def test_calls_that_touch_stand_in_any_order(self):
        for end, is_so in ((3, False), (4, True), (5, True), (None, True)):
            history = ((2, 0), ((("ask", ()), 1, end, 0), (("ask", ()), 4, 9, 0)))
            self.check(True, "is_order", history, (0, 1))
            self.check(is_so, "is_order", history, (1, 0))
            if end is not None:
                self.check(is_so, "is_order", ((2, 0), tuple(call[:3] for call in history[1])), (1, 0))

    def test_calls_far_apart_in_the_order(self):
        history = ((2, 0), ((("ask", ()), 0, 1, 0), (("ask", ()), 0, 9, 0), (("ask", ()), 0, 9, 0),
                            (("ask", ()), 5, 9, 0)))
        self.check(True, "is_order", history, (1, 0, 2, 3))
        self.check(False, "is_order", history, (3, 1, 2, 0))
        self.check(False, "is_order", history, (1, 3, 0, 2))

    def test_no_calls(self):
        for what in (((2, 0), ()), ((7, 8), ())):
            self.check(True, "is_order", what, ())
            self.check(True, "is_weaving", what, ())
            for thing in [[], {}, None, (0,), "", 0, False, ((),)]:
                self.check(False, "is_order", what, thing)
                self.check(False, "is_weaving", what, thing)
            self.check_walk(what, ())
            self.check(None, "first_wrong", what, ())

    def test_all_orders_of_small_histories_and_plans(self):
        chosen = random.Random(18)
        for _ in range(60):
            history = some_history(chosen, 4, 4)
            self.check_all(history)
            self.check_all(holed(chosen, history))
            self.check_all(some_plan(chosen, 4, 4))

    def test_any_value(self):
        histories = [((2, 0), ()), ((3, 1), ((("ask", (2,)), 0, None, "open"),)), FITTING,
                     ((2, 0), ((("ask", ()), 0, None, 0), (("ask", ()), 0, 0, 0), (("tell", (), 1), 0, 1, "clash")))]
        for history in histories:
            plan = (history[0], tuple((deed, begin, begin + 1) for deed, begin, _, _ in history[1]))
            order = tuple(range(len(history[1])))
            for thing in odd_values() + near(order) + near(order[::-1]) + changed_orders(order):
                self.check(oracle.an_order(plan, thing), "is_order", plan, thing)
                self.check(oracle.an_order(history, thing), "is_order", history, thing)
                self.check(oracle.a_weaving(history, thing), "is_weaving", history, thing)

    def test_truths_are_no_indexes(self):
        history = ((2, 0), ((("ask", ()), 0, 9, 0), (("ask", ()), 0, 9, 0)))
        for thing in [(False, True), (0, True), (False, 1), (True, 0), [0, 1], (0, 0), (1, 1), (0,), (0, 1, 1),
                      (0, 1, 2), (0, -1), (1, 2), ("0", "1"), ((0, 1),), (0, None), {0: 0, 1: 1}, "01", None]:
            self.check(False, "is_order", history, thing)
            self.check(False, "is_weaving", history, thing)
        for thing in [(0, 1), (1, 0)]:
            self.check(True, "is_order", history, thing)
            self.check(True, "is_weaving", history, thing)


class TestWalks(WeavingCase):
    def test_told_whole(self):
        history = ((3, 2), ((("tell", ONE, 1), 0, 3, "new"), (("ask", BOTH), 2, 6, None),
                            (("tell", BOTH, 2), 4, None, None), (("ask", ONE), 1, 9, 1)))
        self.check(("new", "open", "new", 1), "answers_by", history, (1, 0, 2, 3))
        self.check(("new", 2, "new", "open"), "answers_by", history, (3, 0, 2, 1))
        self.check(((3, 2), ((("tell", ONE, 1), 0, 3, "new"), (("ask", BOTH), 2, 6, 2),
                             (("tell", BOTH, 2), 4, None, "new"), (("ask", ONE), 1, 9, "open"))),
                   "run_by", history, (3, 0, 2, 1))
        for place, rows in enumerate([(), (), ((ONE, 1),), ((ONE, 1), (BOTH, 2)), ((ONE, 1), (BOTH, 2))]):
            self.check(rows, "store_at", history, (3, 0, 2, 1), place)

    def test_each_answer_of_a_tell(self):
        plan = ((5, 1), ((("tell", (1,), 2), 0, 9), (("tell", (2,), 4), 0, 9), (("tell", (3,), 2), 0, 9),
                         (("tell", (0,), 0), 0, 9), (("tell", (0,), 3), 0, 9), (("ask", (4,)), 0, 9)))
        self.check(("new", "known", "clash", "known", "clash", 3), "answers_by", plan, (0, 1, 2, 3, 4, 5))
        self.check(("clash", "clash", "new", "known", "clash", "open"), "answers_by", plan, (5, 4, 3, 2, 1, 0))
        self.check((((3,), 2),), "store_at", plan, (5, 4, 3, 2, 1, 0), 6)
        self.check((), "store_at", plan, (5, 4, 3, 2, 1, 0), 3)

    def test_a_run_of_a_plan_is_a_whole_history(self):
        chosen = random.Random(181)
        for _ in range(40):
            plan = some_plan(chosen, 5, 3)
            order = chosen.choice(oracle.orders(plan))
            history = weavings.run_by(plan, order)
            self.assertTrue(is_history(history) and is_whole(history))
            self.check(True, "is_weaving", history, order)
            self.check(None, "first_wrong", history, order)

    def test_all_orders_of_small_plans(self):
        chosen = random.Random(182)
        for _ in range(60):
            plan = some_plan(chosen, 4, 4)
            for order in oracle.orders(plan):
                self.check_walk(plan, order)

    def test_all_orders_of_histories_with_holes(self):
        chosen = random.Random(183)
        for _ in range(40):
            history = holed(chosen, some_history(chosen, 4, 4))
            for order in oracle.orders(history):
                self.check_walk(history, order)

    def test_many_calls(self):
        told = tuple((("tell", (1,) * (at % 8) + (0,) * (8 - at % 8), at % 5), 0, None, "new") for at in range(24))
        history = ((5, 8), told)
        orders = [tuple(range(24)), tuple(range(24))[::-1], tuple(at * 7 % 24 for at in range(24))]
        for order in orders:
            rows = weavings.store_at(history, order, 24)
            self.assertEqual(len(rows), 7)
            answers = weavings.answers_by(history, order)
            self.assertEqual(rows, tuple(told[index][0][1:] for index in order if answers[index] == "new"))
            self.assertEqual(weavings.is_weaving(history, order), False)
            self.check(True, "is_weaving", weavings.run_by(history, order), order)


class TestWeavings(WeavingCase):
    def test_told_whole(self):
        self.assertEqual([order for order in permutations(range(4)) if weavings.is_weaving(FITTING, order)], WEAVINGS)
        for order, place in [((0, 1, 2, 3), 3), ((0, 1, 3, 2), 2), ((2, 0, 1, 3), 0), ((0, 2, 3, 1), 1),
                             ((3, 0, 2, 1), 2), ((1, 0, 2, 3), 3), ((1, 3, 0, 2), 1), ((0, 3, 2, 1), 2)]:
            self.check(place, "first_wrong", FITTING, order)
        for order in WEAVINGS:
            self.check(None, "first_wrong", FITTING, order)

    def test_an_order_that_is_none_is_no_weaving(self):
        # The answers would be right, but the first call is ahead of the second one.
        history = ((2, 1), ((("tell", (1,), 1), 0, 1, "new"), (("ask", (1,)), 2, 3, "open")))
        self.check(False, "is_weaving", history, (1, 0))
        self.check(False, "is_weaving", history, (0, 1))
        self.check(1, "first_wrong", history, (0, 1))
        touching = ((2, 1), (history[1][0], (("ask", (1,)), 1, 3, "open")))
        self.check(True, "is_weaving", touching, (1, 0))

    def test_each_wrong_answer(self):
        deeds = {"tell": ["new", "known", "clash"], "ask": ["open", 0, 1, 2]}
        plan = ((3, 1), ((("tell", (1,), 2), 0, 9), (("ask", (2,)), 0, 9), (("tell", (2,), 1), 0, 9),
                         (("tell", (2,), 2), 0, 9), (("ask", (0,)), 0, 9)))
        for order in ((0, 1, 2, 3, 4), (4, 1, 3, 0, 2), (1, 2, 0, 4, 3)):
            history = weavings.run_by(plan, order)
            for place, index in enumerate(order):
                for answer in deeds[plan[1][index][0][0]]:
                    call = history[1][index][:3] + (answer,)
                    other = (history[0], history[1][:index] + (call,) + history[1][index + 1:])
                    is_right = answer == history[1][index][3]
                    self.check(None if is_right else place, "first_wrong", other, order)
                    self.check(is_right, "is_weaving", other, order)

    def test_all_orders_of_small_histories(self):
        chosen = random.Random(184)
        places = []
        for _ in range(300):
            history = some_history(chosen, 4, 5)
            for order in permutations(range(len(history[1]))):
                if oracle.an_order(history, order):
                    places.append(self.check_answers(history, order))
                else:
                    self.check(False, "is_weaving", history, order)
        for place in (None, 0, 1, 2, 3):
            self.assertGreater(places.count(place), 20, place)

    def test_at_the_end_the_store_holds_the_new_rows(self):
        # [5]: in each weaving, in the order in which they stand there.
        chosen = random.Random(5)
        seen = 0
        for _ in range(200):
            history = some_history(chosen, 4, 6)
            for order in oracle.orders(history):
                if weavings.is_weaving(history, order):
                    new = tuple(history[1][index][0][1:] for index in order if history[1][index][3] == "new")
                    self.check(new, "store_at", history, order, len(order))
                    seen += 1
        self.assertGreater(seen, 100)


class TestAround(WeavingCase):
    def test_told_whole(self):
        early = [(7, 1, 3, 5, 0, 2, 4, 6), (1, 7, 3, 2, 5, 0, 4, 6), (7, 1, 2, 3, 5, 0, 4, 6), (3, 7, 1, 2, 5, 0, 4, 6),
                 (7, 1, 3, 5, 4, 2, 0, 6), (7, 1, 5, 3, 2, 0, 4, 6), (7, 1, 3, 5, 6, 2, 0, 4), (7, 1, 3, 2, 5, 0, 4, 6)]
        late = [(7, 1, 3, 2, 5, 4, 6, 0), (7, 3, 1, 2, 5, 0, 4, 6), (7, 1, 3, 5, 0, 4, 6, 2), (7, 1, 2, 5, 3, 0, 4, 6),
                (7, 1, 3, 2, 5, 0, 6, 4), (7, 1, 3, 2, 5, 0, 4, 6), (7, 1, 3, 2, 5, 0, 4, 6), (1, 3, 7, 2, 5, 0, 4, 6)]
        for index in range(8):
            self.check(early[index], "early_order", EQUAL, index)
            self.check(late[index], "late_order", EQUAL, index)

    def test_equal_begins_stand_by_their_indexes(self):
        plan = ((2, 0), tuple((("ask", ()), begin, 3) for begin in (2, 0, 2, 1, 0, 3)))
        self.check((3, 1, 4, 0, 2, 5), "early_order", plan, 3)
        self.check((1, 4, 0, 2, 5, 3), "late_order", plan, 3)
        self.check((0, 1, 4, 3, 2, 5), "early_order", plan, 0)
        self.check((1, 4, 3, 2, 5, 0), "late_order", plan, 0)

    def test_begins_stand_as_numbers(self):
        plan = ((2, 0), tuple((("ask", ()), begin, 999999999) for begin in (10, 9, -10, -9, 100, 0)))
        self.check((4, 2, 3, 5, 1, 0), "early_order", plan, 4)
        self.check((2, 3, 5, 1, 0, 4), "late_order", plan, 4)

    def test_one_call(self):
        for end in (0, 4, None):
            history = ((2, 0), ((("ask", ()), 0, end, 0),))
            self.check((0,), "early_order", history, 0)
            self.check((0,), "late_order", history, 0)

    def test_by_chance(self):
        chosen = random.Random(185)
        for _ in range(80):
            history = some_history(chosen, 6, 4)
            self.check_around(history)
            self.check_around(holed(chosen, history))
            self.check_around(some_plan(chosen, 7, 4))
        self.check_around(EQUAL)

    def test_no_other_order_has_less_ahead_and_none_has_more(self):
        chosen = random.Random(186)
        for _ in range(40):
            plan = some_plan(chosen, 4, 3)
            orders = oracle.orders(plan)
            for index in range(len(plan[1])):
                self.assertEqual(weavings.early_order(plan, index).index(index),
                                 min(order.index(index) for order in orders))
                self.assertEqual(weavings.late_order(plan, index).index(index),
                                 max(order.index(index) for order in orders))


class TestTold(WeavingCase):
    """[3]: equal arguments give equal results, whatever was called before."""

    def results(self, history, order):
        found = [weavings.is_order(history, order), weavings.is_weaving(history, order),
                 weavings.answers_by(history, order), weavings.run_by(history, order),
                 weavings.first_wrong(history, order)]
        found += [weavings.store_at(history, order, place) for place in range(len(order) + 1)]
        return found + [(weavings.early_order(history, index), weavings.late_order(history, index)) for index in order]

    def test_asked_again(self):
        chosen = random.Random(187)
        cases = [(history, order) for history in [some_history(chosen, 4, 4) for _ in range(15)] + [FITTING]
                 for order in oracle.orders(history)]
        first = [self.results(history, order) for history, order in cases]
        again = [self.results((history[0], tuple(list(history[1]))), tuple(list(order)))
                 for history, order in reversed(cases)]
        self.assertEqual(repr(first), repr(again[::-1]))


if __name__ == "__main__":
    unittest.main()
