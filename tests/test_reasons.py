"""[19], with the definitions of [2]: reasons are added up by the test, and compared with all combinations."""

import random
import unittest

from freshtold import reasons
from freshtold.errors import NotIndependent
from tests import history_oracle as told
from tests import oracle
from tests.cases import ToldCase
from tests.histories import BOTH, EMPTY, FITTING, HOUSES, ONE, OTHER, large_history, mixed_histories

SIGNATURES = {"new_rows": ["history"], "leaners": ["history", "index"], "reasons": ["history"],
              "reason_of": ["history", "asked"], "number_of": ["history", "asked"]}
# All answers there are, to sums that are given and to such that are not.
ALL_ANSWERS = ((5, 2), (
    (("ask", (0, 3)), 0, 9, 4), (("tell", (2, 0), 1), 0, 9, "new"), (("ask", (1, 0)), 0, 9, "open"),
    (("tell", (1, 0), 3), 0, 9, "known"), (("tell", (1, 1), 0), 0, 9, "clash"), (("tell", (1, 3), 2), 0, 9, "new"),
    (("ask", (0, 0)), 0, 9, 0), (("ask", (0, 0)), 0, 9, "open"), (("ask", (3, 4)), 0, None, 0),
    (("tell", (0, 0), 2), 0, None, "known"), (("ask", (2, 0)), 0, 9, 3)))
NOT_GIVEN = ((3, 2), ((("tell", ONE, 1), 0, 3, "new"), (("tell", BOTH, 2), 1, 4, "known"), (("ask", OTHER), 2, 6, 1),
                      (("ask", BOTH), 0, 9, "open"), (("tell", (2, 0), 0), 0, 1, "known"), (("ask", ONE), 0, 1, 0)))
# Each with the factors that make the empty sum of its new rows, told by hand; there are no others but their multiples.
DEPENDENT = [
    (((2, 0), ((("tell", (), 0), 0, 1, "new"),)), {0: 1}),
    (((7, 1), ((("ask", (3,)), 0, 1, 2), (("tell", (0,), 4), 0, 1, "new"))), {1: 1}),
    (((3, 2), ((("tell", ONE, 1), 0, 1, "new"), (("tell", (2, 0), 2), 0, 1, "known"),
               (("tell", (2, 0), 0), 0, 1, "new"))), {0: 1, 2: 1}),
    (((5, 2), ((("tell", BOTH, 1), 0, 1, "new"), (("tell", ONE, 0), 0, 1, "new"), (("ask", ONE), 0, 1, "open"),
               (("tell", OTHER, 3), 0, 1, "new"))), {0: 1, 1: 4, 3: 4}),
]


class ReasonCase(ToldCase):
    def check_dependent(self, history, asked):
        """All four raise NotIndependent, whatever they are asked, with factors that make the empty sum."""
        calls = [(reasons.reasons,)] + [(reasons.leaners, index) for index in range(len(history[1]))]
        calls += [(function, one) for function in (reasons.reason_of, reasons.number_of) for one in asked]
        for function, *told_more in calls:
            factors = self.caught(NotIndependent, function, history, *told_more).factors
            self.assertTrue(told.factors(history, factors), (history, factors))
            self.assertNotEqual(factors, {})
            self.assertFalse(any(told.made(history, factors)[0]), (history, factors))

    def check_sums(self, history, sums):
        """The reason of each sum makes it, with the number; it is the only one."""
        numbers = told.given(history[0], told.rows(history))
        for one in sums:
            reason = self.call(reasons.reason_of, history, one)
            self.assertEqual(repr(reason), repr(told.reason(history, one)))
            self.check(numbers[one][0] if one in numbers else None, reasons.number_of, history, one)
            if reason is not None:
                self.assertTrue(told.factors(history, reason))
                self.assertEqual(told.made(history, reason), (one, numbers[one][0]))

    def check_calls(self, history):
        """What is told of the calls is what their sums, and [2], say."""
        found = [told.reason(history, told.asked(history, index)) for index in told.everything(history)]
        self.check(tuple(None if one is None else tuple(one) for one in found), reasons.reasons, history)
        for index in told.everything(history):
            wanted = tuple(other for other in told.everything(history) if told.leans(history, other, index))
            self.check(wanted, reasons.leaners, history, index)

    def check_history(self, history):
        self.check(told.rows(history), reasons.new_rows, history)
        sums = oracle.worlds(history[0])
        if told.independent(history[0], told.rows(history)):
            self.check_sums(history, sums)
            self.check_calls(history)
        else:
            self.check_dependent(history, [sums[0], sums[-1]] + [call[0][1] for call in history[1]])


class TestInterface(ToldCase):
    def test_all_are_defined_in_the_file(self):
        self.check_interface(reasons, SIGNATURES)


class TestReasons(ReasonCase):
    def test_told_whole(self):
        self.check(((ONE, 1), (BOTH, 2)), reasons.new_rows, FITTING)
        wanted = {ONE: {0: 1}, BOTH: {1: 1}, OTHER: {0: 2, 1: 1}, (0, 0): {}, (2, 0): {0: 2}, (0, 2): {0: 1, 1: 2},
                  (2, 1): {0: 1, 1: 1}, (1, 2): {0: 2, 1: 2}, (2, 2): {1: 2}}
        for one, reason in wanted.items():
            self.check(reason, reasons.reason_of, FITTING, one)
            self.check((one[0] + one[1]) % 3, reasons.number_of, FITTING, one)
        self.check(((0,), (1,), (0, 1), (1,)), reasons.reasons, FITTING)
        for index, leaning in enumerate([(2,), (2,), (), ()]):
            self.check(leaning, reasons.leaners, FITTING, index)

    def test_all_answers(self):
        # The calls 1 and 5 are new; those answered "open" or "new" lean on nothing, whatever their sums.
        self.check((((2, 0), 1), ((1, 3), 2)), reasons.new_rows, ALL_ANSWERS)
        self.check(((1, 5), (1,), (1,), (1,), (1, 5), (5,), (), (), (5,), (), (1,)), reasons.reasons, ALL_ANSWERS)
        for index in range(11):
            wanted = {1: (0, 3, 4, 10), 5: (0, 4, 8)}.get(index, ())
            self.check(wanted, reasons.leaners, ALL_ANSWERS, index)
        self.check_history(ALL_ANSWERS)

    def test_sums_that_are_not_given(self):
        self.check(((ONE, 1),), reasons.new_rows, NOT_GIVEN)
        self.check(((0,), None, None, None, (0,), (0,)), reasons.reasons, NOT_GIVEN)
        for index in range(6):
            # What is told otherwise than the new rows give it leans on them all the same.
            self.check((4, 5) if index == 0 else (), reasons.leaners, NOT_GIVEN, index)
        self.check(None, reasons.reason_of, NOT_GIVEN, OTHER)
        self.check(None, reasons.number_of, NOT_GIVEN, OTHER)
        self.check(0, reasons.number_of, NOT_GIVEN, (0, 0))
        self.check_history(NOT_GIVEN)

    def test_no_calls(self):
        for history in EMPTY:
            self.check((), reasons.new_rows, history)
            self.check((), reasons.reasons, history)
            empty = (0,) * history[0][1]
            self.check({}, reasons.reason_of, history, empty)
            self.check(0, reasons.number_of, history, empty)
            for at in range(history[0][1]):
                one = empty[:at] + (1,) + empty[at + 1:]
                self.check(None, reasons.reason_of, history, one)
                self.check(None, reasons.number_of, history, one)

    def test_no_new_calls(self):
        for house in HOUSES:
            empty, full = (0,) * house[1], (1,) * house[1]
            history = (house, ((("ask", full), 0, 1, "open"), (("tell", full, 1), 0, 1, "known"),
                               (("ask", empty), 0, 1, 0)))
            self.check((), reasons.new_rows, history)
            full_reason = None if house[1] else ()
            self.check((full_reason, full_reason, ()), reasons.reasons, history)
            for index in range(3):
                self.check((), reasons.leaners, history, index)
            self.check_history(history)

    def test_each_row_alone(self):
        for house in HOUSES:
            for row in oracle.all_rows(house)[::3]:
                self.check_history((house, ((("ask", row[0]), 0, 4, "open"), (("tell",) + row, 2, 3, "new"),
                                            (("tell",) + row, 5, 6, "known"), (("ask", row[0]), 1, None, row[1]))))

    def test_by_chance(self):
        histories = mixed_histories(random.Random(19), 150, 7)
        for history in histories:
            self.check_history(history)
        kinds = [told.independent(history[0], told.rows(history)) for history in histories]
        self.assertGreater(kinds.count(True), 100)
        self.assertGreater(kinds.count(False), 10)

    def test_many_calls(self):
        chosen = random.Random(190)
        for house in [(7, 8), (5, 8), (3, 7), (2, 8)]:
            history = large_history(chosen, house)
            found = self.call(reasons.reasons, history)
            leaning = [reasons.leaners(history, index) for index in range(24)]
            for index, call in enumerate(history[1]):
                reason = self.call(reasons.reason_of, history, call[0][1])
                self.assertTrue(told.factors(history, reason))
                self.assertEqual(tuple(reason), found[index])
                one, number = told.made(history, reason)
                self.assertEqual(one, call[0][1])
                self.check(number, reasons.number_of, history, one)
                for other in range(24):
                    self.assertEqual(index in leaning[other], other in found[index] and call[3] != "new")


class TestNotIndependent(ReasonCase):
    def test_told_whole(self):
        for history, factors in DEPENDENT:
            self.check_history(history)
            found = self.caught(NotIndependent, reasons.reasons, history).factors
            wanted = [{index: number * worth % history[0][0] for index, worth in factors.items()}
                      for number in range(1, history[0][0])]
            self.assertIn(found, wanted)

    def test_ahead_of_sums_that_are_given_and_calls_that_are_not_new(self):
        for history, _ in DEPENDENT:
            self.check_dependent(history, oracle.worlds(history[0]))

    def test_unlike_numbers_make_rows_no_more_independent(self):
        for one, other in [(0, 0), (0, 1), (1, 2), (2, 2)]:
            history = ((3, 1), ((("tell", (1,), one), 0, 1, "new"), (("tell", (2,), other), 0, 1, "new")))
            self.check(tuple([((1,), one), ((2,), other)]), reasons.new_rows, history)
            self.check_dependent(history, [(0,), (1,), (2,)])

    def test_more_rows_than_unknowns(self):
        told_rows = tuple((("tell", (at % 7, at // 7), 1), 0, None, "new") for at in range(1, 25))
        history = ((7, 2), told_rows)
        self.assertEqual(len(self.call(reasons.new_rows, history)), 24)
        self.check_dependent(history, [(0, 0), (3, 4)])


if __name__ == "__main__":
    unittest.main()
