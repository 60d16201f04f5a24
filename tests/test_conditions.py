"""[25] and [7]: conditions beside the words of [2], and claims of few calls beside all their orders."""

import random
import unittest

from freshtold import conditions
from freshtold.books import book_paper
from freshtold.errors import NotSound
from tests import history_oracle as told
from tests import oracle
from tests.cases import ToldCase
from tests.histories import (BOTH, CALLS, EMPTY, FITTING, LATE, NOTHING, OTHER, bent_history, fitting_history,
                             large_history, some_histories, sound_history)

SIGNATURES = {"conditions": ["history"], "answer_conditions": ["history", "index"], "needless": ["many", "claims"],
              "least_claims": ["many", "claims"], "can_all_hold": ["many", "claims"],
              "follows": ["many", "claims", "claim"]}
WRONG = ((3, 2), CALLS[:2] + ((("ask", OTHER), 2, 6, 0), CALLS[3]))
SOON = ((3, 2), CALLS[:3] + ((("ask", BOTH), 0, 0, "open"),))
# Of all sorts: 0 and 1 are new; 2 leans on both, 3 on none; 4 is open of the empty sum, 5 of what is not given, 6 of a
# sum made of both; 1 is ahead of 2, too, and 7, open as well, is ahead of all that is in its reason.
ALL_SORTS = ((3, 3), (
    (("tell", (1, 0, 0), 1), 4, 9, "new"), (("tell", (0, 1, 0), 2), 2, 4, "new"), (("ask", (1, 1, 0)), 5, 9, 0),
    (("tell", (0, 0, 0), 1), 3, 9, "clash"), (("ask", (0, 0, 0)), 4, None, "open"), (("ask", (1, 1, 1)), 4, 9, "open"),
    (("ask", (2, 1, 0)), 3, 9, "open"), (("ask", (2, 0, 0)), 1, 1, "open")))


def holding(many, claims):
    """All orders of so many calls in which all claims hold."""
    return [order for order in told.all_orders(many) if all(told.holds(order, claim) for claim in claims)]


def words_of(history, index):
    """The claims that come of the answer of a call, by the words of the point."""
    answer, reason = history[1][index][3], told.reason(history, told.asked(history, index))
    found = [(other, (index,)) for other in told.everything(history) if told.leans(history, index, other)]
    if answer == "open" and reason:
        found.append((index, tuple(reason)))
    return sorted(found)


def all_words_of(history):
    """The conditions of a history by the words of the point."""
    indexes = told.everything(history)
    found = {(one, (other,)) for one in indexes for other in indexes if oracle.ahead(history, one, other)}
    for index in indexes:
        found |= set(words_of(history, index))
    return sorted(found)


def some_claims(chosen, many, most):
    """Claims by chance of so many calls, perhaps some of them more than once, in any order; some of them a tuple."""
    found = []
    for _ in range(chosen.randrange(most + 1)):
        index, *lot = chosen.sample(range(many), min(many, chosen.choice([2, 2, 2, 3, 4])))
        found.append((index, tuple(sorted(lot))))
        if chosen.randrange(6) == 0:
            found.append(chosen.choice(found))
    chosen.shuffle(found)
    return found if chosen.randrange(2) else tuple(found)


class ConditionCase(ToldCase):
    def check_history(self, history):
        """The conditions of a sound history; if no empty sum is open, they let just its weavings."""
        found = self.call(conditions.conditions, history)
        self.assertEqual(repr(found), repr(all_words_of(history)))
        for index in told.everything(history):
            self.check(words_of(history, index), conditions.answer_conditions, history, index)
        if not any(call[3] == "open" and not any(call[0][1]) for call in history[1]):
            self.assertEqual(holding(len(history[1]), found), told.weavings(history))
            self.check(told.weavings(history) != [], conditions.can_all_hold, len(history[1]), found)

    def check_claims(self, many, claims, others=()):
        """All that is told of claims, beside all orders."""
        orders = holding(many, claims)
        self.check(orders != [], conditions.can_all_hold, many, claims)
        for claim in others:
            self.check(all(told.holds(order, claim) for order in orders), conditions.follows, many, claims, claim)
        each = sorted(set(claims))
        self.check([claim for claim in each if self.is_needless(many, each, claim)],
                   conditions.needless, many, claims)
        left = each
        for claim in reversed(each):
            if self.is_needless(many, left, claim):
                left = [other for other in left if other != claim]
        self.check(left, conditions.least_claims, many, claims)
        self.assertEqual(holding(many, left), orders)

    def is_needless(self, many, claims, claim):
        others = [other for other in claims if other != claim]
        return all(told.holds(order, claim) for order in holding(many, others))

    def check_unsound(self, history):
        """Both raise what book_paper returns."""
        calls = [(conditions.answer_conditions, history, index) for index in told.everything(history)]
        self.check_papers(NotSound, book_paper(history), [(conditions.conditions, history)] + calls)


class TestInterface(ToldCase):
    def test_all_are_defined_in_the_file(self):
        self.check_interface(conditions, SIGNATURES)


class TestConditions(ConditionCase):
    def test_told_whole(self):
        self.check([(0, (2,)), (1, (2,)), (3, (1,))], conditions.conditions, FITTING)
        self.check([(0, (2,)), (1, (2,)), (3, (1,)), (3, (2,))], conditions.conditions, SOON)
        self.check([(0, (2,)), (0, (3,)), (1, (2,)), (1, (3,)), (3, (1,))], conditions.conditions, LATE)
        for index, found in enumerate([[], [], [(0, (2,)), (1, (2,))], [(3, (1,))]]):
            for history in (FITTING, SOON, LATE):
                self.check(found, conditions.answer_conditions, history, index)

    def test_all_sorts(self):
        self.check([(0, (2,)), (1, (2,)), (6, (0, 1)), (7, (0,)), (7, (1,)), (7, (2,)), (7, (3,)), (7, (4,)),
                    (7, (5,)), (7, (6,))], conditions.conditions, ALL_SORTS)
        for index, found in enumerate([[], [], [(0, (2,)), (1, (2,))], [], [], [], [(6, (0, 1))], [(7, (0,))]]):
            self.check(found, conditions.answer_conditions, ALL_SORTS, index)

    def test_an_empty_sum_that_is_open_has_none(self):
        self.check([], conditions.conditions, NOTHING)
        self.check([], conditions.answer_conditions, NOTHING, 0)
        history = ((2, 0), ((("ask", ()), 0, 1, "open"), (("ask", ()), 2, 3, "open")))
        self.check([(0, (1,))], conditions.conditions, history)
        self.check([], conditions.answer_conditions, history, 1)

    def test_no_calls(self):
        for history in EMPTY:
            self.check([], conditions.conditions, history)

    def test_by_chance(self):
        histories = [FITTING, SOON, LATE]
        histories += some_histories(random.Random(25), fitting_history, 80, 5)
        histories += some_histories(random.Random(250), sound_history, 100, 5)
        histories += some_histories(random.Random(251), fitting_history, 10, 6)
        for history in histories:
            self.check_history(history)
        sizes = [len(claim[1]) for history in histories for claim in conditions.conditions(history)]
        self.assertGreater(sizes.count(2), 15)
        self.assertGreater([bool(told.weavings(history)) for history in histories].count(False), 20)

    def test_many_calls(self):
        chosen = random.Random(252)
        for house in [(7, 8), (2, 8)]:
            history = large_history(chosen, house)
            found = self.call(conditions.conditions, history)
            self.assertEqual(found, sorted(set(found)))
            self.check(True, conditions.can_all_hold, 24, found)
            for index in range(24):
                for claim in self.call(conditions.answer_conditions, history, index):
                    self.assertIn(claim, found)
            self.check(False, conditions.can_all_hold, 24, found + [(found[0][1][0], found[0][:1])])
            left = self.call(conditions.least_claims, 24, found)
            self.assertTrue(set(left) <= set(found))
            self.assertTrue(all(conditions.follows(24, left, claim) for claim in found[::7]))
            self.check([], conditions.needless, 24, left)


class TestNotSound(ConditionCase):
    def test_told_whole(self):
        for history in (WRONG, ((2, 0), ((("tell", (), 0), 0, 1, "new"),)), ((3, 1), ((("ask", (1,)), 0, 1, 2),))):
            self.check_unsound(history)

    def test_by_chance(self):
        histories = [history for history in some_histories(random.Random(253), bent_history, 60, 5)
                     if not told.sound(history)]
        self.assertGreater(len(histories), 20)
        for history in histories:
            self.check_unsound(history)


class TestClaims(ConditionCase):
    def test_told_whole(self):
        chain = [(0, (1,)), (1, (2,))]
        for many, claims, claim, is_so in [
                (3, chain, (0, (2,)), True), (3, chain, (0, (1, 2)), True), (3, chain, (2, (0,)), False),
                (3, [(0, (1, 2))], (0, (2,)), False), (2, [(0, (1,)), (1, (0,))], (0, (1,)), True),
                (3, [(0, (1,)), (1, (0,))], (2, (0,)), True), (3, [], (0, (1,)), False), (3, (), (0, (1, 2)), False),
                (3, [(0, (1, 2)), (1, (2,))], (0, (2,)), True), (3, [(0, (1, 2)), (2, (1,))], (0, (1,)), True)]:
            for told_as in (claims, tuple(claims), list(claims)[::-1], list(claims) * 2):
                self.check(is_so, conditions.follows, many, told_as, claim)
        self.check([(0, (2,))], conditions.needless, 3, chain + [(0, (2,))])
        self.check(chain, conditions.least_claims, 3, [(0, (2,))] + chain)
        self.check([(3, (2,))], conditions.needless, 4, conditions.conditions(SOON))
        self.check(conditions.conditions(FITTING), conditions.least_claims, 4, conditions.conditions(SOON))

    def test_none(self):
        for claims in ([], ()):
            for many in (0, 1, 4, 24):
                self.check(True, conditions.can_all_hold, many, claims)
                self.check([], conditions.needless, many, claims)
                self.check([], conditions.least_claims, many, claims)

    def test_one_claim_more_than_once(self):
        # A claim is none of the others, how often it may stand there.
        for claims in ([(0, (1,))] * 3, ((0, (1,)),) * 2, [(0, (1, 2))] * 4, ((2, (0, 1)),)):
            self.check([], conditions.needless, 3, claims)
            self.check(list(claims[:1]), conditions.least_claims, 3, claims)

    def test_claims_that_no_order_keeps(self):
        knot = [(0, (1,)), (1, (0,))]
        self.check(False, conditions.can_all_hold, 2, knot)
        self.check([], conditions.needless, 2, knot)
        self.check(knot, conditions.least_claims, 2, knot)
        self.check([(2, (0,))], conditions.needless, 3, knot + [(2, (0,))])
        self.check(knot, conditions.least_claims, 3, [(2, (0,))] + knot)
        for claim in told.claims(4):
            self.check(True, conditions.follows, 4, knot, claim)
        self.check_claims(3, [(0, (1, 2)), (1, (0, 2)), (2, (0, 1))], told.claims(3))
        self.check_claims(4, [(0, (1,)), (1, (2,)), (2, (0,)), (3, (0,)), (0, (3,))], told.claims(4))

    def test_the_greatest_are_left_out_first(self):
        # As 2 stands ahead of 1, the first two say the same: only the greater one of them goes.
        claims = [(0, (1,)), (0, (1, 2)), (2, (1,))]
        for told_as in (claims, claims[::-1], tuple(claims) * 2):
            self.check([(0, (1,)), (0, (1, 2))], conditions.needless, 3, told_as)
            self.check([(0, (1,)), (2, (1,))], conditions.least_claims, 3, told_as)
        claims = [(0, (1,)), (0, (1, 2)), (1, (2,)), (0, (2,))]
        self.check([(0, (1, 2)), (0, (2,))], conditions.needless, 3, claims)
        self.check([(0, (1,)), (1, (2,))], conditions.least_claims, 3, claims)

    def test_all_small_lots_of_claims(self):
        for many in (1, 2, 3):
            everything = told.claims(many)
            for lot in told.lots(tuple(range(len(everything)))):
                if len(lot) <= 3:
                    self.check_claims(many, [everything[at] for at in lot], everything)

    def test_by_chance(self):
        chosen = random.Random(254)
        kept = []
        for _ in range(250):
            many = chosen.randrange(2, 5)
            claims = some_claims(chosen, many, 6)
            self.check_claims(many, claims, chosen.sample(told.claims(many), min(6, len(told.claims(many)))))
            kept.append(conditions.can_all_hold(many, claims))
        self.assertGreater(kept.count(False), 30)
        for _ in range(25):
            self.check_claims(5, some_claims(chosen, 5, 8), chosen.sample(told.claims(5), 5))

    def test_many_calls(self):
        chain = [(at, (at + 1,)) for at in range(23)]
        more = chain + [(0, (23,)), (4, (9, 17)), (3, (5,))]
        self.check(True, conditions.can_all_hold, 24, more)
        self.check([(0, (23,)), (3, (5,)), (4, (9, 17))], conditions.needless, 24, more[::-1])
        self.check(chain, conditions.least_claims, 24, tuple(more))
        self.check(False, conditions.can_all_hold, 24, more + [(23, (0,))])
        self.check(False, conditions.follows, 24, chain, (23, (0, 7, 22)))
        self.check(True, conditions.follows, 24, chain + [(23, (3,))], (23, (0, 7, 22)))


if __name__ == "__main__":
    unittest.main()
