"""[31] and [10]: what is sure of the answers in plans, beside all orders of small ones; what shows it is walked."""

import random
import unittest

from freshtold import sureness
from freshtold.errors import NoCommand
from freshtold.forms import is_plan
from freshtold.weavings import answers_by, is_order
from tests import oracle, plans
from tests.cases import ToldCase
from tests.plans import EARLY, EMPTY, PARTED, PLAN, TOUCHING, large_plan, some_plans
from tests.values import near, odd_values

SIGNATURES = {"rank_of": ["plan"], "can_answer": ["plan", "index"], "sure_answer": ["plan", "index"],
              "order_for": ["plan", "index", "answer"], "sure_new": ["plan"], "never_new": ["plan"],
              "known_by": ["plan", "index"], "is_known_by": ["plan", "index", "thing"], "open_by": ["plan", "index"],
              "is_open_by": ["plan", "index", "thing"]}
ANSWERS = ("new", "known", "clash", "open", 0, 1, 2, 3, 4, 5, 6)
# A sum made of the rows of three others, one of which is made of the other two; the first unknown is told twice.
MADE = ((5, 3), ((("tell", (1, 0, 0), 3), 0, 1), (("tell", (0, 1, 0), 1), 0, 2), (("tell", (2, 4, 0), 0), 1, 4),
                 (("ask", (1, 1, 0)), 2, 3), (("tell", (3, 0, 1), 4), 1, 2), (("ask", (0, 2, 2)), 3, 9)))


class SureCase(ToldCase):
    def check_plan(self, plan):
        """All that is told of a plan is what all its runs tell."""
        self.assertTrue(is_plan(plan), plan)
        runs = plans.runs(plan)
        ranks = {len(plans.new_in(answers)) for _, answers in runs}
        self.assertEqual(len(ranks), 1)
        self.check(ranks.pop(), sureness.rank_of, plan)
        lots = [set(plans.new_in(answers)) for _, answers in runs]
        self.check(tuple(sorted(set.intersection(*lots))), sureness.sure_new, plan)
        self.check(tuple(sorted(set(plans.tells(plan)) - set.union(*lots))), sureness.never_new, plan)
        kinds = []
        for index in range(len(plan[1])):
            kinds.append(self.check_call(plan, index, [answers[index] for _, answers in runs]))
        return kinds

    def check_call(self, plan, index, seen):
        """What a call can be answered, and in which order, and what shows it; seen has its answer in each order."""
        wanted = [answer for answer in (*range(plan[0][0]), "known", "new", "clash", "open") if answer in seen]
        self.check(wanted, sureness.can_answer, plan, index)
        self.check(wanted[0] if len(wanted) == 1 else None, sureness.sure_answer, plan, index)
        for answer in ANSWERS:
            order = self.call(sureness.order_for, plan, index, answer)
            if answer in seen:
                self.assertTrue(oracle.an_order(plan, order), (plan, order))
                self.assertEqual(repr(plans.answers_in(plan, order)[index]), repr(answer))
            else:
                self.assertIsNone(order)
        self.check_shown(plan, index, not {"new", "open"} & set(seen), not set(seen) - {"new", "open"})
        return repr(wanted)

    def check_shown(self, plan, index, is_known, is_open):
        """There is a paper just if the sum is given, ahead of the call, in all runs, or in none; and it is one."""
        known, parting = self.call(sureness.known_by, plan, index), self.call(sureness.open_by, plan, index)
        self.assertEqual([known is not None, parting is not None], [is_known, is_open], (plan, index))
        if known is not None:
            self.assertTrue(plans.a_known_by(plan, index, known), (plan, index, known))
            self.check(True, sureness.is_known_by, plan, index, known)
            self.check(True, sureness.is_known_by, plan, index, dict(reversed(known.items())))
        if parting is not None:
            self.assertTrue(plans.an_open_by(plan, index, parting), (plan, index, parting))
            self.check(True, sureness.is_open_by, plan, index, parting)

    def check_things(self, plan, index, things):
        """Values are what known_by and open_by return just if the words of the point say so; how many are."""
        known = parting = 0
        for thing in things:
            wanted = [plans.a_known_by(plan, index, thing), plans.an_open_by(plan, index, thing)]
            found = [sureness.is_known_by(plan, index, thing), sureness.is_open_by(plan, index, thing)]
            self.assertEqual(repr(found), repr(wanted), (plan, index, repr(thing)[:300]))
            known, parting = known + wanted[0], parting + wanted[1]
        return known, parting


class TestInterface(ToldCase):
    def test_all_are_defined_in_the_file(self):
        self.check_interface(sureness, SIGNATURES)


class TestSureness(SureCase):
    def test_told_whole(self):
        self.check(2, sureness.rank_of, PLAN)
        for index, wanted in enumerate([["new"], ["known", "new"], ["known", "new"], [0, "open"], ["known"]]):
            self.check(wanted, sureness.can_answer, PLAN, index)
            self.check(wanted[0] if len(wanted) == 1 else None, sureness.sure_answer, PLAN, index)
        self.check((0,), sureness.sure_new, PLAN)
        self.check((4,), sureness.never_new, PLAN)
        self.check(None, sureness.order_for, PLAN, 0, "known")
        self.check(None, sureness.order_for, PLAN, 3, 1)
        self.check(None, sureness.known_by, PLAN, 3)
        for plan in (PLAN, EARLY, TOUCHING, PARTED, MADE):
            self.check_plan(plan)

    def test_no_calls(self):
        for plan in EMPTY:
            self.check(0, sureness.rank_of, plan)
            self.check((), sureness.sure_new, plan)
            self.check((), sureness.never_new, plan)

    def test_the_empty_sum(self):
        for house in [(2, 0), (7, 0), (3, 2), (5, 1)]:
            empty = (0,) * house[1]
            plan = (house, ((("tell", empty, 0), 0, 1), (("ask", empty), 0, 0)))
            self.check(0, sureness.rank_of, plan)
            self.check(["known"], sureness.can_answer, plan, 0)
            self.check([0], sureness.can_answer, plan, 1)
            for index in (0, 1):
                self.check({}, sureness.known_by, plan, index)
                self.check(None, sureness.open_by, plan, index)
                self.check(True, sureness.is_known_by, plan, index, {})
            self.check((0,), sureness.never_new, plan)
            self.check_plan(plan)

    def test_stretches_that_touch(self):
        # What ends at a moment is not ahead of what begins at it.
        self.check([1, "open"], sureness.can_answer, TOUCHING, 1)
        self.check(["known", "new"], sureness.can_answer, TOUCHING, 0)
        self.check([1], sureness.can_answer, PARTED, 1)
        self.check(["new"], sureness.can_answer, PARTED, 0)
        self.check(["known"], sureness.can_answer, PARTED, 2)
        self.check({0: 1}, sureness.known_by, PARTED, 2)

    def test_sums_made_of_others(self):
        self.check([4, "open"], sureness.can_answer, MADE, 3)
        self.check(None, sureness.known_by, MADE, 3)
        self.check(3, sureness.rank_of, MADE)
        later = (MADE[0], (MADE[1][0], MADE[1][1][:2] + (1,), MADE[1][2], MADE[1][3], (("ask", (0, 1, 0)), 5, 5)))
        self.check({0: 1, 1: 1}, sureness.known_by, later, 3)
        self.check(4, sureness.sure_answer, later, 3)
        self.assertTrue(plans.a_known_by(later, 4, {0: 2, 2: 4}))
        self.check(True, sureness.is_known_by, later, 4, {2: 4, 0: 2})

    def test_beside_all_orders(self):
        chosen, kinds = random.Random(31), []
        for plan in some_plans(chosen, 220, 5):
            kinds += self.check_plan(plan)
        for kind in ("['new']", "['known']", "['known', 'new']", "['open']"):
            self.assertGreater(kinds.count(kind), 20, kind)
        numbers = [kind for kind in kinds if kind[1].isdigit()]
        self.assertGreater(len([kind for kind in numbers if "open" in kind]), 20)
        self.assertGreater(len([kind for kind in numbers if "open" not in kind]), 20)

    def test_many_calls(self):
        chosen, kinds = random.Random(310), []
        for house in [(2, 8), (7, 8), (3, 4), (5, 1), (2, 0)]:
            for wide in (1, 6, 40):
                plan = large_plan(chosen, house, 12, wide)
                rank = self.call(sureness.rank_of, plan)
                for index in range(0, 24, 3):
                    answers = self.call(sureness.can_answer, plan, index)
                    kinds.append(len(answers))
                    for answer in answers:
                        order = self.call(sureness.order_for, plan, index, answer)
                        self.assertTrue(is_order(plan, order))
                        found = answers_by(plan, order)
                        self.assertEqual([repr(found[index]), found.count("new")], [repr(answer), rank])
                    given = set(answers) & {"new", "open"} == set()
                    self.check_shown(plan, index, given, not set(answers) - {"new", "open"})
        self.assertGreater(kinds.count(1), 20)
        self.assertGreater(kinds.count(2), 20)


class TestOrderFor(SureCase):
    def test_any_value(self):
        for plan in (PLAN, EARLY, TOUCHING):
            for index in range(len(plan[1])):
                answers = sureness.can_answer(plan, index)
                for thing in odd_values() + [plan[0][0], -1, -2, 10 ** 39]:
                    is_one = type(thing) in (int, str) and thing in answers
                    self.assertEqual(sureness.order_for(plan, index, thing) is not None, is_one, repr(thing)[:200])

    def test_truths_are_no_answers(self):
        self.check(None, sureness.order_for, PARTED, 1, True)
        self.assertIsNotNone(sureness.order_for(PARTED, 1, 1))
        self.check(None, sureness.order_for, PLAN, 3, False)
        self.assertIsNotNone(sureness.order_for(PLAN, 3, 0))

    def test_what_is_no_answer_of_a_deed(self):
        for index in range(5):
            for answer in ("clash", "", "New", "knew", None, 3, -3, 7, [0], (0,), ["new"], {"new": 0}, NoCommand()):
                self.check(None, sureness.order_for, PLAN, index, answer)
        self.check(None, sureness.order_for, PLAN, 3, "new")
        self.check(None, sureness.order_for, PLAN, 1, "open")


class TestPapers(SureCase):
    def test_told_whole(self):
        for index, thing, wanted in [(4, {1: 1, 2: 2}, True), (4, {2: 2, 1: 1}, True), (4, {0: 1}, True),
                                     (4, {0: 1, 1: 0}, False), (4, {0: 4}, False), (4, {False: 1}, False),
                                     (4, {0: True}, False), (4, {}, False), (4, {3: 1}, False), (4, {4: 1}, False),
                                     (1, {0: 1}, False), (4, ((0, 1),), False), (4, [0], False), (4, None, False)]:
            self.check(wanted, sureness.is_known_by, PLAN, index, thing)
        for index, thing, wanted in [(0, (1, 2), True), (0, (1, 0), False), (0, (2, 1), True), (0, [1, 2], False),
                                     (0, (True, 2), False), (0, (1, 2, 0), False), (0, (4, 2), False),
                                     (0, None, False)]:
            self.check(wanted, sureness.is_open_by, PLAN, index, thing)
        self.check(True, sureness.is_open_by, EARLY, 1, (0, 1))
        self.check(False, sureness.is_open_by, EARLY, 1, (0, 0))

    def test_tells_that_are_not_ahead(self):
        # The second tell gives the sum of the third, but it is not ahead of it; nor is the call itself.
        plan = ((3, 1), ((("tell", (1,), 1), 0, 1), (("tell", (2,), 2), 1, 5), (("tell", (1,), 1), 2, 3),
                         (("ask", (2,)), 9, 9)))
        for thing, wanted in [({0: 1}, True), ({1: 2}, False), ({2: 1}, False), ({0: 2, 1: 1}, False), ({3: 2}, False)]:
            self.check(wanted, sureness.is_known_by, plan, 2, thing)
        for thing, wanted in [({0: 2}, True), ({1: 1}, True), ({2: 2}, True), ({0: 2, 1: 2, 2: 1}, False),
                              ({0: 2, 1: 2, 2: 2}, True), ({0: 1, 1: 1, 2: 2}, True)]:
            self.check(wanted, sureness.is_known_by, plan, 3, thing)

    def test_all_papers_of_small_plans(self):
        chosen, known, parting = random.Random(311), 0, 0
        for plan in some_plans(chosen, 70, 4, houses=[(2, 1), (2, 2), (3, 1), (3, 2), (2, 3)]):
            things = oracle.worlds(plan[0])
            for keys in plans.told.lots(tuple(range(len(plan[1])))):
                things += [dict(zip(keys, numbers, strict=True)) for numbers in oracle.worlds((plan[0][0], len(keys)))]
            for index in range(len(plan[1])):
                more = self.check_things(plan, index, things)
                known, parting = known + more[0], parting + more[1]
        self.assertGreater(known, 50)
        self.assertGreater(parting, 50)

    def test_one_part_otherwise(self):
        chosen = random.Random(312)
        for plan in [PLAN, EARLY, PARTED, MADE] + some_plans(chosen, 10, 5):
            for index in range(len(plan[1])):
                for paper in (sureness.known_by(plan, index), sureness.open_by(plan, index)):
                    if paper is not None:
                        things = near(paper)
                        self.check_things(plan, index, chosen.sample(things, min(len(things), 150)) + [paper])

    def test_any_value(self):
        for plan, index in [(PLAN, 4), (PLAN, 0), (EARLY, 1), (PARTED, 1), (((2, 0), ((("ask", ()), 0, 0),)), 0)]:
            self.check_things(plan, index, odd_values())
            for part in odd_values():
                self.check_things(plan, index, [{0: part}, {0: 1, 1: part}, (part,), (part, 2), [part, 2]])
            for part in [None, True, "", "0", (0,), 10 ** 39, -1]:
                self.check_things(plan, index, [{part: 1}, {0: 1, part: 1}])


if __name__ == "__main__":
    unittest.main()
