"""[32] and [10]: which lots can be new, beside all orders of small plans; what calls wait for, beside all lots."""

import random
import unittest

from freshtold import newlots
from freshtold.errors import TooMany
from freshtold.weavings import answers_by, is_order
from tests import history_oracle as told
from tests import oracle, plans
from tests.cases import ToldCase
from tests.plans import EARLY, EMPTY, PARTED, PLAN, TOUCHING, large_plan, some_plans

SIGNATURES = {"can_be_new": ["plan", "lot"], "order_with": ["plan", "lot"], "gone_on": ["plan", "lot"],
              "new_lots": ["plan"], "waits_for": ["plan", "index"]}
# The ask waits for the sum of three unknowns, of which one is told ahead of it and one can be told behind it.
WAITING = ((2, 3), ((("tell", (1, 0, 0), 1), 0, 1), (("tell", (0, 1, 0), 0), 1, 9), (("tell", (0, 1, 1), 1), 0, 4),
                    (("tell", (0, 0, 1), 1), 3, 5), (("ask", (1, 1, 1)), 2, 5), (("tell", (1, 1, 1), 0), 6, 7)))


def single_tells(count, house=(2, 12), begin=0):
    """So many tells of an unknown of their own each."""
    sums = [tuple(int(at == place) for at in range(house[1])) for place in range(count)]
    return tuple((("tell", one, 1), begin, begin) for one in sums)


class LotCase(ToldCase):
    def check_lots(self, plan):
        """Which lots can be new is what all runs tell; how they come about is what the words of [10] tell."""
        seen = {plans.new_in(answers) for _, answers in plans.runs(plan)}
        many = 0
        for lot in told.lots(plans.tells(plan)):
            self.check(lot in seen, newlots.can_be_new, plan, lot)
            order = self.call(newlots.order_with, plan, lot)
            self.assertEqual(order is not None, lot in seen)
            if order is not None:
                self.assertTrue(oracle.an_order(plan, order), (plan, lot, order))
                self.assertEqual(plans.new_in(plans.answers_in(plan, order)), lot)
            self.check(plans.gone_on(plan, lot), newlots.gone_on, plan, lot)
            many += lot not in seen
        self.check(sorted(seen), newlots.new_lots, plan)
        return len(seen), many

    def check_waits(self, plan):
        """What calls wait for is what all lots of tells tell; how many lots there are for each."""
        sizes = []
        for index in range(len(plan[1])):
            wanted = plans.least_waits(plan, index)
            self.check(wanted, newlots.waits_for, plan, index)
            sizes.append("()" if wanted == [()] else len(wanted))
        return sizes

    def check_too_many(self, calls):
        for function, *arguments in calls:
            self.assertEqual(repr(self.caught(TooMany, function, *arguments).most), "10")


class TestInterface(ToldCase):
    def test_all_are_defined_in_the_file(self):
        self.check_interface(newlots, SIGNATURES)


class TestLots(LotCase):
    def test_told_whole(self):
        self.check([(0, 1), (0, 2)], newlots.new_lots, PLAN)
        for lot, wanted in [((1, 2), False), ((0, 1), True), ((0, 2), True), ((0,), False), ((), False),
                            ((0, 4), False), ((0, 1, 2), False), ((1, 4), False)]:
            self.check(wanted, newlots.can_be_new, PLAN, lot)
        self.check(((0, 3), (1, 2, 4)), newlots.gone_on, PLAN, (0,))
        self.check(((0, 1, 2, 3, 4), ()), newlots.gone_on, PLAN, (0, 1))
        self.check(None, newlots.order_with, PLAN, (1, 2))
        for plan in (PLAN, EARLY, TOUCHING, PARTED, WAITING):
            self.check_lots(plan)

    def test_always_the_least_that_can_be_taken(self):
        # The second call waits for the last one; as soon as it can be taken, it goes ahead of those behind it.
        tell = ("tell", (1,), 1)
        plan = ((2, 1), ((("ask", (1,)), 3, 3), (tell, 0, 9), (("ask", (1,)), 5, 5), (tell, 4, 4)))
        self.check(((0, 3, 1, 2), ()), newlots.gone_on, plan, (3,))
        self.check(((0, 1, 3, 2), ()), newlots.gone_on, plan, (1,))
        self.check(((0,), (1, 2, 3)), newlots.gone_on, plan, ())
        self.check((0, 3, 1, 2), newlots.order_with, plan, (3,))

    def test_lots_that_are_not_independent(self):
        # All can be taken then, but not in a run in which just they are new.
        self.check(((0, 1, 2, 3, 4), ()), newlots.gone_on, PLAN, (0, 1, 2, 4))
        self.check(None, newlots.order_with, PLAN, (0, 1, 2, 4))
        self.check(False, newlots.can_be_new, PLAN, (0, 1, 2, 4))

    def test_no_calls(self):
        for plan in EMPTY:
            self.check([()], newlots.new_lots, plan)
            self.check(((), ()), newlots.gone_on, plan, ())
            self.check((), newlots.order_with, plan, ())
            self.check(True, newlots.can_be_new, plan, ())

    def test_empty_sums_are_never_new(self):
        plan = ((3, 1), ((("tell", (0,), 0), 0, 1), (("tell", (2,), 1), 0, 1), (("tell", (1,), 2), 0, 1)))
        self.check([(1,), (2,)], newlots.new_lots, plan)
        self.check(False, newlots.can_be_new, plan, (0, 1))
        self.check(False, newlots.can_be_new, plan, (0,))
        self.check(((0,), (1, 2)), newlots.gone_on, plan, ())

    def test_beside_all_orders(self):
        chosen, many, lacking = random.Random(32), [], 0
        houses = [(2, 0), (2, 1), (2, 2), (2, 3), (3, 1), (3, 2), (3, 3), (5, 1), (7, 2)]
        for plan in some_plans(chosen, 250, 5, houses=houses):
            found = self.check_lots(plan)
            many.append(found[0])
            lacking += found[1]
        self.assertGreater(len([size for size in many if size > 1]), 20)
        self.assertGreater(lacking, 100)

    def test_many_calls(self):
        chosen, many = random.Random(320), []
        for house in [(2, 8), (7, 5), (3, 4), (2, 5)]:
            for wide in (3, 10, 40):
                plan = large_plan(chosen, house, 10, wide)
                found = self.call(newlots.new_lots, plan)
                many.append(len(found))
                self.assertEqual(found, sorted(set(found)))
                for lot in chosen.sample(found, min(4, len(found))):
                    order = self.call(newlots.order_with, plan, lot)
                    self.assertTrue(is_order(plan, order))
                    self.assertEqual(plans.new_in(answers_by(plan, order)), lot)
                for _ in range(5):
                    order = newlots.gone_on(plan, tuple(sorted(chosen.sample(plans.tells(plan), 6))))[0]
                    self.assertEqual(len(set(order)), len(order))
                order = tuple(sorted(range(24), key=lambda index: (plan[1][index][1], chosen.random())))
                self.assertIn(plans.new_in(answers_by(plan, order)), found)
        self.assertGreater(max(many), 5)


class TestWaits(LotCase):
    def test_told_whole(self):
        self.check([], newlots.waits_for, EARLY, 1)
        self.check([(1,), (2,)], newlots.waits_for, PLAN, 3)
        self.check([()], newlots.waits_for, PLAN, 4)
        self.check([(1, 3), (2,)], newlots.waits_for, WAITING, 4)
        self.check([()], newlots.waits_for, PARTED, 1)
        self.check([(0,), (2,)], newlots.waits_for, TOUCHING, 1)
        # Of a tell, too: but not for itself, nor for those behind it.
        self.check([], newlots.waits_for, PLAN, 0)
        self.check([(0, 2)], newlots.waits_for, PLAN, 1)
        self.check([], newlots.waits_for, PARTED, 0)
        for plan in (PLAN, EARLY, TOUCHING, PARTED, WAITING):
            self.check_waits(plan)

    def test_the_empty_sum_waits_for_nothing(self):
        for house in [(2, 0), (5, 2)]:
            plan = (house, ((("ask", (0,) * house[1]), 0, 9), (("tell", (0,) * house[1], 0), 0, 9)))
            self.check([()], newlots.waits_for, plan, 0)
            self.check([()], newlots.waits_for, plan, 1)

    def test_beside_all_lots(self):
        chosen, sizes = random.Random(321), []
        houses = [(2, 1), (2, 2), (2, 3), (3, 1), (3, 2), (3, 3), (5, 2), (7, 2)]
        for plan in some_plans(chosen, 200, 7, houses=houses):
            sizes += self.check_waits(plan)
        for size in ("()", 0, 1, 2, 3):
            self.assertGreater(sizes.count(size), 10, size)

    def test_ten_such_tells(self):
        chosen, sizes = random.Random(322), []
        for house in [(2, 4), (3, 3), (5, 2), (2, 8)]:
            plan = large_plan(chosen, house, 10, 40)
            for index in range(0, 24, 6):
                wanted = plans.least_waits(plan, index) if house[1] < 8 else newlots.waits_for(plan, index)
                self.check(wanted, newlots.waits_for, plan, index)
                sizes.append(len(wanted))
        self.assertGreater(max(sizes), 5)


class TestTooMany(LotCase):
    def test_eleven_tells(self):
        plan = ((2, 12), single_tells(11))
        self.check_too_many([(newlots.new_lots, plan)])
        self.check_too_many([(newlots.new_lots, ((2, 0), ((("tell", (), 0), 0, 0),) * 24))])

    def test_ten_tells(self):
        plan = ((2, 12), single_tells(10) + ((("ask", (1,) * 12), 0, 0),) * 14)
        self.check([tuple(range(10))], newlots.new_lots, plan)
        self.check([()], newlots.new_lots, ((2, 0), ((("tell", (), 0), 0, 0),) * 10))

    def test_others_have_no_bound(self):
        plan = ((2, 12), single_tells(12))
        lot = tuple(range(12))
        self.check(True, newlots.can_be_new, plan, lot)
        self.check(lot, newlots.order_with, plan, lot)
        self.check((lot, ()), newlots.gone_on, plan, lot)

    def test_waits_for_eleven_such_tells(self):
        ask = ((("ask", (1,) * 11 + (0,)), 0, 0),)
        self.check_too_many([(newlots.waits_for, ((2, 12), single_tells(11) + ask), 11)])
        # Also if the sum is given anyhow, or by no lot.
        for one in ((0,) * 12, (0,) * 11 + (1,)):
            self.check_too_many([(newlots.waits_for, ((2, 12), single_tells(11) + ((("ask", one), 0, 0),)), 11)])
        # A tell does not count for itself.
        plan = ((2, 12), single_tells(11))
        self.check([], newlots.waits_for, plan, 3)
        self.check_too_many([(newlots.waits_for, ((2, 12), single_tells(12)), 3)])

    def test_tells_ahead_and_behind_do_not_count(self):
        ask = ((("ask", (1,) * 12), 5, 6),)
        plan = ((2, 12), single_tells(12, begin=0) + ask + single_tells(11, begin=9))
        self.check([()], newlots.waits_for, plan, 12)
        around = ((2, 12), single_tells(10, begin=5) + ask + single_tells(12, begin=9)[10:] + single_tells(12)[10:])
        self.check([tuple(range(10))], newlots.waits_for, around, 10)
        plan = ((2, 1), ((("tell", (1,), 1), 0, 0),) * 23 + ((("ask", (1,)), 1, 1),))
        self.check([()], newlots.waits_for, plan, 23)


if __name__ == "__main__":
    unittest.main()
