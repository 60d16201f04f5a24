"""[26] and [7]: histories beside one another, with all their weavings; answers that make no difference."""

import random
import unittest

from freshtold import alike
from freshtold.errors import NoFit
from freshtold.misfits import misfit
from tests import history_oracle as told
from tests import oracle
from tests.cases import ToldCase
from tests.histories import (BOTH, CALLS, EMPTY, FITTING, HOUSES, LATE, NOTHING, ONE, OTHER, fitting_history,
                             large_history, some_histories, sound_history, unfit_histories)
from tests.test_conditions import all_words_of, holding, words_of

SIGNATURES = {"same_weavings": ["one", "other"], "parted_by": ["one", "other"], "idle_answers": ["history"]}
WRONG = ((3, 2), CALLS[:2] + ((("ask", OTHER), 2, 6, 0), CALLS[3]))
SOON = ((3, 2), CALLS[:3] + ((("ask", BOTH), 0, 0, "open"),))
TOLD = ((3, 2), CALLS[:3] + ((("ask", BOTH), 0, 9, 2),))
ALL_KINDS = ((3, 2), (CALLS[0], (("ask", ONE), 4, 5, 1), (("tell", (2, 0), 2), 0, 9, "known"),
                      (("ask", ONE), -2, -1, "open"), (("tell", (0, 0), 1), 0, 9, "clash"),
                      (("ask", BOTH), 0, 9, "open"), (("ask", ONE), -2, 9, "open")))


def free(many):
    """So many calls that may stand in any order."""
    return ((2, 0), ((("ask", ()), 0, 9, 0),) * many)


def varied(chosen, history):
    """Histories with as many calls: one stretch is otherwise, or one ask is answered as it was not."""
    at = chosen.randrange(len(history[1]))
    deed, begin, end, answer = history[1][at]
    begin = begin + chosen.randrange(-3, 4)
    end = None if chosen.randrange(4) == 0 else begin + chosen.randrange(6)
    if deed[0] == "ask" and chosen.randrange(3) == 0:
        answer = chosen.choice(["open", *range(history[0][0])])
    return (history[0], history[1][:at] + ((deed, begin, end, answer),) + history[1][at + 1:])


class AlikeCase(ToldCase):
    def check_both(self, one, other):
        """Two histories that fit, both ways, beside all their weavings; whether they are alike."""
        for first, second in ((one, other), (other, one)):
            weavings = (told.weavings(first), told.weavings(second))
            self.check(weavings[0] == weavings[1], alike.same_weavings, first, second)
            found = self.call(alike.parted_by, first, second)
            if weavings[0] == weavings[1]:
                self.assertIsNone(found)
                continue
            self.assertIs(type(found), tuple)
            which, weaving = found
            # The second one's is told only if the first one has none that the second one lacks.
            self.assertEqual(repr(which), "0" if set(weavings[0]) - set(weavings[1]) else "1")
            self.assertIn(weaving, weavings[which])
            self.assertNotIn(weaving, weavings[1 - which])
            self.assertTrue(oracle.a_weaving((first, second)[which], weaving))
        return told.weavings(one) == told.weavings(other)

    def check_idle(self, history):
        """The calls whose own conditions hold in all orders in which those of the stretches and other answers do."""
        found, indexes = [], told.everything(history)
        for index in indexes:
            claims = {(one, (other,)) for one in indexes for other in indexes if oracle.ahead(history, one, other)}
            for other in indexes:
                claims |= set(words_of(history, other)) if other != index else set()
            orders = holding(len(indexes), claims)
            if history[1][index][3] != "new" and all(told.holds(order, claim) for order in orders
                                                     for claim in words_of(history, index)):
                found.append(index)
        self.check(tuple(found), alike.idle_answers, history)
        return len(found)

    def check_no_fit(self, one, other):
        """Both functions raise NoFit with what misfit returns of the first one that does not fit."""
        calls = [(function, one, other) for function in (alike.same_weavings, alike.parted_by)]
        self.check_papers(NoFit, misfit(one) or misfit(other), calls)


class TestInterface(ToldCase):
    def test_all_are_defined_in_the_file(self):
        self.check_interface(alike, SIGNATURES)


class TestSame(AlikeCase):
    def test_told_whole(self):
        self.check(True, alike.same_weavings, FITTING, SOON)
        self.check(None, alike.parted_by, FITTING, SOON)
        self.check(False, alike.same_weavings, FITTING, TOLD)
        self.assertEqual(self.call(alike.parted_by, FITTING, TOLD)[0], 0)
        self.assertTrue(self.check_both(FITTING, SOON))
        self.assertFalse(self.check_both(FITTING, TOLD))
        self.assertFalse(self.check_both(SOON, TOLD))

    def test_unlike_houses(self):
        # Each of these lets just the orders in which 0 stands ahead of 1.
        alike_ones = [((2, 1), ((("tell", (1,), 1), 0, 9, "new"), (("ask", (1,)), 0, 9, 1))),
                      ((7, 0), ((("ask", ()), 0, 1, 0), (("tell", (), 3), 2, None, "clash"))),
                      ((3, 2), ((("ask", BOTH), 0, None, "open"), (("tell", (2, 2), 1), 0, 9, "new")))]
        for one in alike_ones:
            for other in alike_ones:
                self.assertTrue(self.check_both(one, other))
            self.assertFalse(self.check_both(one, free(2)))
            turned = (one[0], one[1][::-1])
            self.assertFalse(self.check_both(one, turned))

    def test_no_calls(self):
        for one in EMPTY:
            for other in EMPTY:
                self.assertTrue(self.check_both(one, other))

    def test_one_part_of_the_other(self):
        # The weavings of the first are some of those of the second: only the second one's can part them.
        for one, other in [(FITTING, free(4)), (TOLD, free(4)), (((2, 0), ((("ask", ()), 0, 1, 0),
                           (("ask", ()), 2, 3, 0))), free(2))]:
            self.assertEqual([self.call(alike.parted_by, one, other)[0], self.call(alike.parted_by, other, one)[0]],
                             [1, 0])
            self.check_both(one, other)

    def test_claims_of_several_calls(self):
        tells = ((("tell", ONE, 1), 0, 9, "new"), (("tell", OTHER, 1), 0, 9, "new"))
        open_pair = ((2, 2), tells + ((("ask", BOTH), 0, 9, "open"),))
        for answer in ("open", 0):
            for begin, end in ((0, 9), (-2, -1), (10, 11), (0, None)):
                other = ((2, 2), tells + ((("ask", BOTH), begin, end, answer),))
                if misfit(other) is None:
                    self.assertEqual(self.check_both(open_pair, other), answer == "open" and end in (9, None))

    def test_by_chance(self):
        chosen = random.Random(26)
        found = []
        for many in (1, 2, 3, 4):
            histories = [fitting_history(chosen, chosen.choice(HOUSES), many, 4) for _ in range(16)]
            found += [self.check_both(one, other) for at, one in enumerate(histories) for other in histories[:at]]
        self.assertGreater(found.count(True), 100)
        self.assertGreater(found.count(False), 150)

    def test_one_call_otherwise(self):
        chosen = random.Random(260)
        found = []
        for history in some_histories(chosen, fitting_history, 120, 5):
            if history[1]:
                other = varied(chosen, history)
                if misfit(other) is None:
                    found.append(self.check_both(history, other))
                else:
                    self.check_no_fit(history, other)
        self.assertGreater(found.count(True), 15)
        self.assertGreater(found.count(False), 15)

    def test_many_calls(self):
        history = large_history(random.Random(261), (5, 8))
        self.check(True, alike.same_weavings, history, history)
        self.check(None, alike.parted_by, history, ((5, 8), tuple(history[1])))
        which, weaving = self.call(alike.parted_by, history, free(24))
        self.assertEqual((which, sorted(weaving)), (1, list(range(24))))


class TestIdle(AlikeCase):
    def test_told_whole(self):
        self.check((), alike.idle_answers, FITTING)
        self.check((3,), alike.idle_answers, SOON)
        # 4 and 5 have no answer conditions; those of 1 and 3 follow from the stretches, those of 2 and 6 do not.
        self.check((1, 3, 4, 5), alike.idle_answers, ALL_KINDS)
        self.check_idle(ALL_KINDS)

    def test_no_calls(self):
        for history in EMPTY:
            self.check((), alike.idle_answers, history)

    def test_new_calls_are_none(self):
        self.check((), alike.idle_answers, ((2, 1), ((("tell", (1,), 1), 0, 9, "new"),)))
        self.check((0, 1), alike.idle_answers, ((2, 1), ((("ask", (1,)), 0, 9, "open"), (("ask", (0,)), 0, 9, 0))))

    def test_two_that_say_the_same(self):
        # Each of two follows from the other one: both are idle.
        calls = ((("tell", (1,), 1), 2, 3, "new"), (("ask", (1,)), 0, 9, 1), (("ask", (1,)), 0, 9, 1))
        self.check((), alike.idle_answers, ((2, 1), calls))
        chained = ((2, 1), calls[:1] + ((("ask", (1,)), 3, 5, 1), (("ask", (1,)), 6, 9, 1)))
        self.check((2,), alike.idle_answers, chained)
        self.check_idle(chained)

    def test_by_chance(self):
        chosen = random.Random(262)
        histories = some_histories(chosen, fitting_history, 130, 5)
        histories += [history for history in some_histories(chosen, sound_history, 80, 5) if misfit(history) is None]
        many = sum(self.check_idle(history) for history in histories)
        self.assertGreater(many, 100)
        own = [words_of(history, index) != [] for history in histories for index in alike.idle_answers(history)]
        self.assertGreater(own.count(True), 10)

    def test_many_calls(self):
        history = large_history(random.Random(263), (3, 8))
        found = self.call(alike.idle_answers, history)
        self.assertTrue(all(history[1][index][3] != "new" for index in found))


class TestNoFit(AlikeCase):
    def test_one_goes_ahead_of_other(self):
        unfit = [LATE, WRONG, ((2, 1), ((("ask", (0,)), 0, 9, "open"),) * 4),
                 ((2, 0), ((("tell", (), 0), 0, 1, "new"),) + free(3)[1])]
        for one in unfit:
            self.check_no_fit(one, FITTING)
            self.check_no_fit(FITTING, one)
            self.check_no_fit(free(4), one)
            for other in unfit:
                self.check_no_fit(one, other)

    def test_idle_answers(self):
        for history in (LATE, WRONG, NOTHING):
            self.check_papers(NoFit, misfit(history), [(alike.idle_answers, history)])

    def test_by_chance(self):
        unfit = unfit_histories(random.Random(264), 50, 5)
        for history in unfit:
            self.check_papers(NoFit, misfit(history), [(alike.idle_answers, history)])
            self.check_no_fit(history, free(len(history[1])))
            self.check_no_fit(free(len(history[1])), history)
        self.assertGreater(len(unfit), 15)

    def test_conditions_tell_all(self):
        # [7]: the same weavings, just if each condition of each one holds in all weavings of the other one.
        chosen = random.Random(265)
        for _ in range(60):
            one, other = (fitting_history(chosen, chosen.choice(HOUSES), 4, 4) for _ in range(2))
            is_so = all(told.holds(weaving, claim) for first, second in ((one, other), (other, one))
                        for claim in all_words_of(first) for weaving in told.weavings(second))
            self.check(is_so, alike.same_weavings, one, other)


if __name__ == "__main__":
    unittest.main()
