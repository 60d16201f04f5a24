"""[23] and [7]: claims of small histories, beside all their weavings, and their holds, beside all lots."""

import random
import unittest

from freshtold import claims
from freshtold.errors import NoFit
from freshtold.misfits import misfit
from tests import history_oracle as told
from tests import oracle
from tests.cases import ToldCase
from tests.histories import (BOTH, CALLS, EMPTY, FITTING, LATE, NOTHING, ONE, OTHER, fitting_history, large_history,
                             some_histories, sound_history, unfit_histories)
from tests.values import near, odd_values

SIGNATURES = {"holds_in": ["order", "claim"], "is_hold": ["history", "claim", "thing"],
              "holds_always": ["history", "claim"], "hold_of": ["history", "claim"],
              "weaving_against": ["history", "claim"], "surely_ahead": ["history"]}
WRONG = ((3, 2), CALLS[:2] + ((("ask", OTHER), 2, 6, 0), CALLS[3]))
# Call 2 is open: it stands ahead of 0 or of 1, whichever is told last; nothing else binds these three.
OPEN_PAIR = ((2, 2), ((("tell", ONE, 1), 0, 9, "new"), (("tell", OTHER, 1), 0, 9, "new"),
                      (("ask", BOTH), 0, 9, "open")))


class ClaimCase(ToldCase):
    def check_claims(self, history):
        """Each claim of a history that fits holds in all weavings or not; what is told to show it does so."""
        weavings, many = told.weavings(history), len(history[1])
        for claim in told.claims(many):
            is_so = all(told.holds(weaving, claim) for weaving in weavings)
            self.check(is_so, claims.holds_always, history, claim)
            weaving = self.call(claims.weaving_against, history, claim)
            if is_so:
                self.assertIsNone(weaving)
            else:
                self.assertIn(weaving, weavings)
                self.assertTrue(oracle.a_weaving(history, weaving))
                self.assertFalse(told.holds(weaving, claim))
            self.check_holds(history, claim, is_so)

    def check_holds(self, history, claim, is_so):
        """There are holds if a claim holds in all weavings, and all lie in the greatest one."""
        holds = told.all_holds(history, claim)
        self.assertEqual(bool(holds), is_so)
        self.check(max(holds, key=len, default=None), claims.hold_of, history, claim)
        members = set().union(*holds)
        self.check(tuple(sorted(members)) if holds else None, claims.hold_of, history, claim)

    def check_each_lot(self, history):
        """Each lot, as a hold of each claim of a sound history."""
        for claim in told.claims(len(history[1])):
            holds = told.all_holds(history, claim)
            for lot in told.lots(told.everything(history)):
                self.assertIs(claims.is_hold(history, claim, lot), lot in holds, (history, claim, lot))

    def check_ahead(self, history):
        weavings, indexes = told.weavings(history), told.everything(history)
        wanted = tuple(tuple(other for other in indexes if other != index and all(
            weaving.index(index) < weaving.index(other) for weaving in weavings)) for index in indexes)
        self.check(wanted, claims.surely_ahead, history)

    def check_no_fit(self, history):
        """Each function that the document says it of raises NoFit with what misfit returns."""
        calls = [(claims.surely_ahead, history)]
        for claim in told.claims(len(history[1]))[:12]:
            calls += [(function, history, claim)
                      for function in (claims.hold_of, claims.holds_always, claims.weaving_against)]
        self.check_papers(NoFit, misfit(history), calls)


class TestInterface(ToldCase):
    def test_all_are_defined_in_the_file(self):
        self.check_interface(claims, SIGNATURES)


class TestHoldsIn(ClaimCase):
    def test_told_whole(self):
        for order, claim, is_so in [
                ((3, 1, 0, 2), (0, (1,)), False), ((3, 1, 0, 2), (0, (1, 2)), True), ((0, 1), (0, (1,)), True),
                ((1, 0), (0, (1,)), False), ((2, 1, 0), (1, (0, 2)), True), ((2, 0, 1), (1, (0, 2)), False),
                ((7, 23, 4), (23, (7,)), False), ((7, 23, 4), (23, (4, 7)), True), ((7, 23, 4), (7, (4, 23)), True)]:
            self.check(is_so, claims.holds_in, order, claim)

    def test_all_small_orders(self):
        for many in range(5):
            for order in told.all_orders(many):
                for claim in told.claims(many):
                    last = max(order.index(other) for other in claim[1])
                    self.check(order.index(claim[0]) < last, claims.holds_in, order, claim)

    def test_an_order_may_have_other_calls(self):
        for order in [(5, 1, 9, 3), (1, 3), (3, 5, 9, 1, 0)]:
            self.check(order.index(1) < order.index(3), claims.holds_in, order, (1, (3,)))


class TestClaims(ClaimCase):
    def test_told_whole(self):
        self.check(True, claims.holds_always, FITTING, (3, (2,)))
        self.check((0, 1, 2, 3), claims.hold_of, FITTING, (3, (2,)))
        self.check(None, claims.hold_of, FITTING, (0, (1,)))
        self.check((3, 1, 0, 2), claims.weaving_against, FITTING, (0, (1,)))
        self.check(None, claims.weaving_against, FITTING, (3, (0, 1)))
        self.check(((2,), (2,), (), (1, 2)), claims.surely_ahead, FITTING)
        for history in (FITTING, OPEN_PAIR):
            self.check_claims(history)
            self.check_ahead(history)

    def test_a_claim_of_several_and_of_none_of_them(self):
        self.check(True, claims.holds_always, OPEN_PAIR, (2, (0, 1)))
        for claim in [(2, (0,)), (2, (1,)), (0, (1,)), (0, (1, 2)), (1, (0, 2))]:
            self.check(False, claims.holds_always, OPEN_PAIR, claim)
        self.check((0, 1, 2), claims.hold_of, OPEN_PAIR, (2, (0, 1)))
        self.check(((), (), ()), claims.surely_ahead, OPEN_PAIR)

    def test_no_calls_and_one(self):
        for history in EMPTY:
            self.check((), claims.surely_ahead, history)
        self.check(((),), claims.surely_ahead, ((2, 0), ((("ask", ()), 0, 1, 0),)))

    def test_by_chance(self):
        histories = some_histories(random.Random(23), fitting_history, 90, 4)
        histories += some_histories(random.Random(230), fitting_history, 12, 5)
        histories += [history for history in some_histories(random.Random(231), sound_history, 60, 4)
                      if told.weavings(history)]
        for history in histories:
            self.check_claims(history)

    def test_surely_ahead_by_chance(self):
        for history in some_histories(random.Random(232), fitting_history, 120, 7):
            self.check_ahead(history)

    def test_many_calls(self):
        chosen = random.Random(233)
        for house in [(7, 8), (3, 6), (2, 8)]:
            history = large_history(chosen, house)
            found = self.call(claims.surely_ahead, history)
            for _ in range(12):
                index, *lot = chosen.sample(range(24), chosen.randrange(2, 5))
                claim = (index, tuple(sorted(lot)))
                hold, weaving = self.call(claims.hold_of, history, claim), claims.weaving_against(history, claim)
                self.check(hold is not None, claims.holds_always, history, claim)
                if hold is None:
                    self.assertTrue(sorted(weaving) == list(range(24)) and not claims.holds_in(weaving, claim))
                else:
                    self.assertIsNone(weaving)
                    self.check(True, claims.is_hold, history, claim, hold)
                if len(lot) == 1:
                    self.assertEqual(lot[0] in found[index], hold is not None)


class TestHolds(ClaimCase):
    def test_told_whole(self):
        for lot, is_so in [((1, 2, 3), True), ((2, 3), False), ((0, 1, 2, 3), True), ((1, 3), False),
                           ((0, 2, 3), False), ((), False), ((1, 2), False), ((2,), False)]:
            self.check(is_so, claims.is_hold, FITTING, (3, (2,)), lot)

    def test_each_lot(self):
        histories = [FITTING, LATE, NOTHING, OPEN_PAIR]
        histories += some_histories(random.Random(234), fitting_history, 25, 4)
        histories += some_histories(random.Random(235), sound_history, 80, 4)
        for history in histories:
            self.check_each_lot(history)
        self.assertGreater([bool(told.weavings(history)) for history in histories].count(False), 10)

    def test_sound_histories_that_do_not_fit(self):
        self.check(True, claims.is_hold, LATE, (1, (2,)), (1, 2, 3))
        self.check(True, claims.is_hold, LATE, (1, (3,)), (1, 3))
        self.check(False, claims.is_hold, LATE, (3, (2,)), (2, 3))
        self.check(True, claims.is_hold, NOTHING, (0, (1,)), (0, 1))
        self.check(False, claims.is_hold, NOTHING, (1, (0,)), (0, 1))

    def check_things(self, history, things):
        """Values are holds of each claim just if the words of [2] say so."""
        for claim in told.claims(len(history[1]))[:40]:
            for thing in things:
                wanted = told.a_hold(history, claim, thing)
                self.assertIs(claims.is_hold(history, claim, thing), wanted, (history, claim, repr(thing)[:300]))

    def test_any_value(self):
        for history in (FITTING, LATE, NOTHING, OPEN_PAIR):
            self.check_things(history, odd_values())
            for lot in [(1, 2, 3), (0, 1, 2, 3), (0, 1), (0, 1, 2)]:
                self.check_things(history, near(lot))

    def test_truths_are_no_indexes(self):
        self.check(True, claims.is_hold, NOTHING, (0, (1,)), (0, 1))
        for thing in [(False, True), (0, True), (False, 1), [0, 1], (1, 0), (0, 1, 2), (0, 0, 1), {0: 0, 1: 1}, "01"]:
            self.assertIs(claims.is_hold(NOTHING, (0, (1,)), thing), False)


class TestNoFit(ClaimCase):
    def test_told_whole(self):
        for history in (LATE, NOTHING, WRONG, ((2, 0), ((("tell", (), 0), 0, 1, "new"),))):
            self.check_no_fit(history)

    def test_by_chance(self):
        histories = unfit_histories(random.Random(236), 50, 5)
        self.assertGreater([told.sound(history) for history in histories].count(True), 10)
        self.assertGreater([told.sound(history) for history in histories].count(False), 10)
        for history in histories:
            self.check_no_fit(history)


if __name__ == "__main__":
    unittest.main()
