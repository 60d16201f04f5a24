"""[28] and [8]: what is known at each moment, beside all weavings of the probed history."""

import random
import unittest

from freshtold import moments
from freshtold.errors import NoFit
from freshtold.misfits import misfit
from tests import history_oracle as told
from tests import oracle
from tests.cases import ToldCase
from tests.histories import (BOTH, CALLS, EMPTY, FITTING, LATE, NOTHING, ONE, OTHER, fitting_history, large_history,
                             mixed_histories, some_histories, unfit_histories)

SIGNATURES = {"probed": ["history", "moment"], "known_at": ["history", "moment", "asked"],
              "sure_at": ["history", "moment"], "given_from": ["history", "asked"], "open_until": ["history", "asked"]}
# The second tell, of a call that never ended, can have taken effect late, or early.
ENDLESS = ((3, 2), ((("tell", ONE, 1), -5, -5, "new"), (("tell", OTHER, 2), 4, None, "new")))
FAR = 999999999


def some_fitting(chosen, count, most, wide=6):
    """Histories that FIT: those of some moments, of long stretches and of short ones."""
    found = some_histories(chosen, fitting_history, count, most, wide)
    return found + some_histories(chosen, fitting_history, count, most, 2)


def moments_around(history):
    """All moments from one ahead of all begins and ends up to one behind them, and far ones."""
    seen = [0] + [call[1] for call in history[1]] + [call[2] for call in history[1] if call[2] is not None]
    return [-FAR, *range(min(seen) - 2, max(seen) + 3), FAR]


class MomentCase(ToldCase):
    def check_moment(self, history, moment, sums):
        """What is known at a moment, and what is sure then, is so in all weavings of the probed history."""
        probed, index, new = told.probed(history, moment), len(history[1]), told.new(history)
        self.check(probed, moments.probed, history, moment)
        sure = set(new)
        for weaving in told.weavings(probed):
            sure &= set(weaving[:weaving.index(index)])
        self.check(tuple(sorted(sure)), moments.sure_at, history, moment)
        kinds = [told.known(probed, index, one) for one in sums]
        for one, kind in zip(sums, kinds, strict=True):
            self.check(kind, moments.known_at, history, moment, one)
        return kinds

    def check_bounds(self, history, one):
        """From when, and until when, is what all moments tell."""
        around = moments_around(history)
        kinds = [told.known(told.probed(history, moment), len(history[1]), one) for moment in around]
        given = [moment for moment, kind in zip(around, kinds, strict=True) if kind == "given"]
        not_given = [moment for moment, kind in zip(around, kinds, strict=True) if kind == "open"]
        self.assertEqual(given, around[len(around) - len(given):])
        self.assertEqual(not_given, around[:len(not_given)])
        start = ("always",) if given == around else ("from", given[0]) if given else ("never",)
        end = ("always",) if not_given == around else ("until", not_given[-1]) if not_given else ("never",)
        self.check(start, moments.given_from, history, one)
        self.check(end, moments.open_until, history, one)
        return start[0], end[0]

    def check_no_fit(self, history):
        """All but probed raise NoFit with what misfit returns of the very history."""
        empty, full = (0,) * history[0][1], (1,) * history[0][1]
        calls = [(moments.given_from, history, one) for one in (empty, full)]
        calls += [(moments.open_until, history, one) for one in (empty, full)]
        for moment in (-FAR, 0, 2, 4, FAR):
            calls += [(moments.sure_at, history, moment)]
            calls += [(moments.known_at, history, moment, one) for one in (empty, full)]
            self.check(told.probed(history, moment), moments.probed, history, moment)
        self.check_papers(NoFit, misfit(history), calls)


class TestInterface(ToldCase):
    def test_all_are_defined_in_the_file(self):
        self.check_interface(moments, SIGNATURES)


class TestProbed(ToldCase):
    def test_told_whole(self):
        self.check(((3, 2), CALLS + ((("ask", (0, 0)), 4, 4, 0),)), moments.probed, FITTING, 4)
        self.check(((7, 0), ((("ask", ()), -3, -3, 0),)), moments.probed, ((7, 0), ()), -3)

    def test_histories_that_fit_and_that_do_not(self):
        for history in mixed_histories(random.Random(28), 10, 5):
            for moment in (-FAR, -1, 0, 3, FAR):
                self.check(told.probed(history, moment), moments.probed, history, moment)


class TestKnownAt(MomentCase):
    def test_told_whole(self):
        for moment, one, wanted in [(-1, ONE, "open"), (0, ONE, "either"), (3, ONE, "either"), (4, ONE, "given"),
                                    (0, BOTH, "open"), (1, BOTH, "either"), (4, BOTH, "either"), (5, BOTH, "given"),
                                    (-9, (0, 0), "given"), (9, OTHER, "given"), (4, OTHER, "either")]:
            self.check(wanted, moments.known_at, FITTING, moment, one)
        for moment, wanted in [(-1, ()), (3, ()), (4, (0,)), (5, (0, 1)), (FAR, (0, 1))]:
            self.check(wanted, moments.sure_at, FITTING, moment)

    def test_calls_that_never_ended(self):
        for moment, one, wanted in [(-6, ONE, "open"), (-5, ONE, "either"), (-4, ONE, "given"), (3, OTHER, "open"),
                                    (4, OTHER, "either"), (FAR, OTHER, "either"), (FAR, BOTH, "either")]:
            self.check(wanted, moments.known_at, ENDLESS, moment, one)
        self.check(("from", -4), moments.given_from, ENDLESS, ONE)
        self.check(("until", -6), moments.open_until, ENDLESS, ONE)
        self.check(("never",), moments.given_from, ENDLESS, OTHER)
        self.check(("until", 3), moments.open_until, ENDLESS, BOTH)

    def test_an_answer_tells_that_a_call_without_end_took_effect(self):
        history = (ENDLESS[0], ENDLESS[1] + ((("ask", OTHER), 9, 12, 2),))
        self.check(("from", 13), moments.given_from, history, OTHER)
        self.check_bounds(history, OTHER)

    def test_each_moment(self):
        chosen, kinds = random.Random(280), []
        for history in [FITTING, ENDLESS] + EMPTY + some_fitting(chosen, 22, 4):
            sums = oracle.worlds(history[0])
            picked = chosen.sample(sums, min(3, len(sums))) + [(0,) * history[0][1]]
            around = moments_around(history)
            for moment in chosen.sample(around, min(7, len(around))) + [-FAR, FAR]:
                kinds += self.check_moment(history, moment, picked)
        for kind in ("given", "open", "either"):
            self.assertGreater(kinds.count(kind), 100, kind)


class TestBounds(MomentCase):
    def test_told_whole(self):
        for one, start, end in [(OTHER, ("from", 5), ("until", 0)), ((0, 0), ("always",), ("never",)),
                                (ONE, ("from", 4), ("until", -1)), (BOTH, ("from", 5), ("until", 0))]:
            self.check(start, moments.given_from, FITTING, one)
            self.check(end, moments.open_until, FITTING, one)

    def test_sums_without_a_reason(self):
        half = ((3, 2), CALLS[:1])
        for history, one in [(half, OTHER), (half, BOTH), (((7, 1), ()), (1,)), (((2, 3), ()), (0, 1, 0))]:
            self.check(("never",), moments.given_from, history, one)
            self.check(("always",), moments.open_until, history, one)

    def test_no_calls(self):
        for history in EMPTY:
            self.check(("always",), moments.given_from, history, (0,) * history[0][1])
            self.check(("never",), moments.open_until, history, (0,) * history[0][1])

    def test_all_moments(self):
        chosen, kinds = random.Random(281), []
        for history in [FITTING, ENDLESS] + some_fitting(chosen, 30, 4):
            sums = oracle.worlds(history[0])
            for one in chosen.sample(sums, min(3, len(sums))) + [(0,) * history[0][1]]:
                kinds.append(self.check_bounds(history, one))
        for kinds_of in zip(*kinds, strict=True):
            for kind in ("always", "never"):
                self.assertGreater(kinds_of.count(kind), 20, kind)
        self.assertGreater([start for start, _ in kinds].count("from"), 20)
        self.assertGreater([end for _, end in kinds].count("until"), 20)

    def test_moments_far_apart(self):
        chosen = random.Random(282)
        for history in some_fitting(chosen, 20, 5):
            # The same stretches, drawn out: what ended at a moment still ends behind what began at it.
            calls = [(deed, begin * 10 ** 7, end and end * 10 ** 7, answer) for deed, begin, end, answer in history[1]]
            for one in oracle.worlds(history[0])[:5]:
                for function, shift in ((moments.given_from, 1), (moments.open_until, -1)):
                    near, far = function(history, one), function((history[0], tuple(calls)), one)
                    if near[0] in ("always", "never"):
                        self.assertEqual(far, near)
                    else:
                        self.assertEqual(far, (near[0], (near[1] - shift) * 10 ** 7 + shift))

    def test_many_calls(self):
        chosen = random.Random(283)
        for house in [(2, 8), (7, 8), (3, 4)]:
            history = large_history(chosen, house)
            for index in range(0, 24, 5):
                one = history[1][index][0][1]
                kind, moment = self.call(moments.given_from, history, one)
                self.assertEqual(kind, "from")
                self.check("given", moments.known_at, history, moment, one)
                self.assertNotEqual(moments.known_at(history, moment - 1, one), "given")
                kind, moment = self.call(moments.open_until, history, one)
                self.assertEqual(kind, "until")
                self.check("open", moments.known_at, history, moment, one)
                self.assertNotEqual(moments.known_at(history, moment + 1, one), "open")


class TestNoFit(MomentCase):
    def test_the_paper_is_that_of_the_very_history(self):
        # The call that probes at 4 is ahead of the last one: so it is stuck with the others, but not told of.
        self.assertEqual(misfit(told.probed(LATE, 4)), ("stuck", (0, 1, 3, 4)))
        self.check_papers(NoFit, ("stuck", (0, 1, 3)), [
            (moments.known_at, LATE, 4, ONE), (moments.sure_at, LATE, 4), (moments.given_from, LATE, ONE),
            (moments.open_until, LATE, ONE), (moments.given_from, LATE, (0, 0)), (moments.open_until, LATE, (0, 0))])

    def test_told_whole(self):
        wrong = ((3, 2), CALLS[:2] + ((("ask", OTHER), 2, 6, 0), CALLS[3]))
        for history in (LATE, NOTHING, wrong, ((2, 0), ((("tell", (), 0), 0, 1, "new"),))):
            self.check_no_fit(history)

    def test_by_chance(self):
        histories = unfit_histories(random.Random(284), 50, 4)
        self.assertGreater(len(histories), 20)
        for history in histories:
            self.check_no_fit(history)


if __name__ == "__main__":
    unittest.main()
