"""[27] and [8]: what is known ahead of each call, beside all weavings of small histories; papers are walked."""

import random
import unittest

from freshtold import knownahead
from freshtold.errors import NoFit
from freshtold.misfits import misfit
from tests import history_oracle as told
from tests import oracle
from tests.cases import ToldCase
from tests.histories import (BOTH, CALLS, FITTING, LATE, NOTHING, ONE, OTHER, fitting_history, large_history,
                             some_histories, sound_history, unfit_histories)
from tests.values import near, odd_values

SIGNATURES = {"known_ahead": ["history", "index", "asked"],
              "weaving_where": ["history", "index", "asked", "is_given"],
              "known_paper": ["history", "index", "asked"], "sure_ahead": ["history", "index"],
              "ever_ahead": ["history", "index"], "is_known_paper": ["history", "index", "asked", "thing"]}
WRONG = ((3, 2), CALLS[:2] + ((("ask", OTHER), 2, 6, 0), CALLS[3]))
# Only the first unknown is ever told; the second call may stand anywhere.
HALF = ((3, 2), ((("tell", ONE, 1), 0, 3, "new"), (("ask", (0, 0)), 0, 9, 0), (("ask", OTHER), 5, 6, "open")))


class KnownCase(ToldCase):
    def check_sum(self, history, index, one):
        """What is known of a sum ahead of a call is what it is in all weavings; what is told to show it does so."""
        weavings = told.weavings(history)
        given = [told.given_ahead(history, weaving, index, one) for weaving in weavings]
        wanted = "given" if all(given) else "either" if any(given) else "open"
        self.check(wanted, knownahead.known_ahead, history, index, one)
        for is_given in (True, False):
            weaving = self.call(knownahead.weaving_where, history, index, one, is_given)
            if is_given in given:
                self.assertIn(weaving, weavings)
                self.assertTrue(oracle.a_weaving(history, weaving))
                self.assertIs(told.given_ahead(history, weaving, index, one), is_given)
            else:
                self.assertIsNone(weaving)
        self.check_paper(history, index, one, wanted)
        return wanted

    def check_paper(self, history, index, one, wanted):
        """There is a paper unless both are so; it is one, and of the right sort."""
        paper = self.call(knownahead.known_paper, history, index, one)
        if wanted == "either":
            self.assertIsNone(paper)
            return
        self.assertTrue(told.a_known_paper(history, index, one, paper), (history, index, one, paper))
        self.check(True, knownahead.is_known_paper, history, index, one, paper)
        reason = told.reason(history, one)
        sort = "without" if reason is None else "own" if index in reason else "last"
        self.assertEqual(paper[0], "given" if wanted == "given" else sort)

    def check_ahead(self, history, index):
        """Which new calls stand ahead of a call in all weavings, and in some."""
        weavings, new = told.weavings(history), told.new(history)
        ahead = [{other for other in new if weaving.index(other) < weaving.index(index)} for weaving in weavings]
        self.check(tuple(sorted(set.intersection(*ahead))), knownahead.sure_ahead, history, index)
        self.check(tuple(sorted(set.union(*ahead))), knownahead.ever_ahead, history, index)

    def check_things(self, history, index, one, things):
        """Values are knowing papers just if the words of the point say so; how many are."""
        many = 0
        for thing in things:
            wanted = told.a_known_paper(history, index, one, thing)
            many += wanted
            self.assertIs(knownahead.is_known_paper(history, index, one, thing), wanted,
                          (history, index, one, repr(thing)[:300]))
        return many

    def check_no_fit(self, history):
        """Each function but is_known_paper raises NoFit with what misfit returns."""
        calls = []
        for index in told.everything(history):
            calls += [(knownahead.sure_ahead, history, index), (knownahead.ever_ahead, history, index)]
            for one in [(0,) * history[0][1], (1,) * history[0][1]]:
                calls += [(knownahead.known_ahead, history, index, one), (knownahead.known_paper, history, index, one)]
                calls += [(knownahead.weaving_where, history, index, one, is_given) for is_given in (True, False)]
        self.check_papers(NoFit, misfit(history), calls)


class TestInterface(ToldCase):
    def test_all_are_defined_in_the_file(self):
        self.check_interface(knownahead, SIGNATURES)


class TestKnown(KnownCase):
    def test_told_whole(self):
        for index, one, wanted in [
                (2, OTHER, "given"), (1, ONE, "either"), (3, (2, 2), "open"), (0, ONE, "open"), (3, (0, 0), "given"),
                (0, (0, 0), "given"), (2, ONE, "given"), (2, BOTH, "given"), (3, ONE, "either"), (3, OTHER, "open"),
                (0, BOTH, "either"), (0, OTHER, "open"), (1, OTHER, "open"), (1, BOTH, "open")]:
            self.check(wanted, knownahead.known_ahead, FITTING, index, one)
            self.check_sum(FITTING, index, one)
        for index, sure, ever in [(0, (), (1,)), (1, (), (0,)), (2, (0, 1), (0, 1)), (3, (), (0,))]:
            self.check(sure, knownahead.sure_ahead, FITTING, index)
            self.check(ever, knownahead.ever_ahead, FITTING, index)
        self.check(None, knownahead.weaving_where, FITTING, 2, OTHER, False)
        self.check((3, 1, 0, 2), knownahead.weaving_where, FITTING, 0, BOTH, True)

    def test_sums_that_are_not_given(self):
        for index in range(3):
            for one in [OTHER, BOTH, (2, 1), (0, 2)]:
                self.check("open", knownahead.known_ahead, HALF, index, one)
                self.check(None, knownahead.weaving_where, HALF, index, one, True)
                self.check_sum(HALF, index, one)
        self.check("given", knownahead.known_ahead, HALF, 2, (2, 0))
        self.check("either", knownahead.known_ahead, HALF, 1, (2, 0))
        self.check("open", knownahead.known_ahead, HALF, 0, (2, 0))

    def test_the_empty_sum(self):
        for house in [(2, 0), (7, 0), (2, 1), (3, 3)]:
            empty = (0,) * house[1]
            history = (house, ((("ask", empty), 0, 1, 0),))
            self.check("given", knownahead.known_ahead, history, 0, empty)
            self.check(("given", {}), knownahead.known_paper, history, 0, empty)
            self.check((0,), knownahead.weaving_where, history, 0, empty, True)
            self.check(None, knownahead.weaving_where, history, 0, empty, False)
            self.check((), knownahead.sure_ahead, history, 0)
            self.check((), knownahead.ever_ahead, history, 0)

    def test_each_call_and_each_sum(self):
        chosen = random.Random(27)
        histories = [FITTING, HALF] + some_histories(chosen, fitting_history, 60, 5)
        histories += some_histories(chosen, fitting_history, 25, 6, houses=[(2, 2), (2, 3), (3, 2)])
        histories += [history for history in some_histories(chosen, sound_history, 40, 5) if told.weavings(history)]
        kinds = []
        for history in histories:
            sums = oracle.worlds(history[0])
            for index in told.everything(history):
                self.check_ahead(history, index)
                for one in chosen.sample(sums, min(6, len(sums))) + [(0,) * history[0][1]]:
                    kinds.append(self.check_sum(history, index, one))
        for kind in ("given", "open", "either"):
            self.assertGreater(kinds.count(kind), 100, kind)

    def test_given_if_all_of_its_reason_are_surely_ahead(self):
        for history in some_histories(random.Random(270), fitting_history, 60, 6):
            for index in told.everything(history):
                sure = knownahead.sure_ahead(history, index)
                for one in oracle.worlds(history[0])[:12]:
                    reason = told.reason(history, one)
                    self.assertEqual(knownahead.known_ahead(history, index, one) == "given",
                                     reason is not None and set(reason) <= set(sure))

    def test_many_calls(self):
        chosen = random.Random(271)
        history = large_history(chosen, (5, 8))
        for index in chosen.sample(range(24), 6):
            one = history[1][chosen.randrange(24)][0][1]
            kind = self.call(knownahead.known_ahead, history, index, one)
            given, not_given = (knownahead.weaving_where(history, index, one, is_given) for is_given in (True, False))
            self.assertEqual(kind, "either" if given and not_given else "given" if given else "open")
            paper = self.call(knownahead.known_paper, history, index, one)
            self.assertEqual(paper is None, kind == "either")
            if paper is not None:
                self.check(True, knownahead.is_known_paper, history, index, one, paper)
            sure, ever = knownahead.sure_ahead(history, index), knownahead.ever_ahead(history, index)
            self.assertTrue(set(sure) <= set(ever) and index not in ever)


class TestPapers(KnownCase):
    # A history, a call and a sum, and a paper of each sort.
    PAPERS = [
        (FITTING, 2, OTHER, ("given", {0: (0, 2), 1: (1, 2)})), (FITTING, 3, (0, 0), ("given", {})),
        (FITTING, 2, ONE, ("given", {0: (0, 1, 2)})), (FITTING, 0, ONE, ("own",)), (FITTING, 1, OTHER, ("own",)),
        (FITTING, 3, BOTH, ("last", (1, 3))), (FITTING, 3, OTHER, ("last", (0, 1, 3))),
        (HALF, 1, OTHER, ("without", (0, 1))), (HALF, 0, BOTH, ("without", (0, 2)))]

    def test_told_whole(self):
        self.check(None, knownahead.known_paper, FITTING, 1, ONE)
        self.check(("own",), knownahead.known_paper, FITTING, 0, ONE)
        for thing, is_so in [(("given", {1: (1, 2), 0: (0, 2)}), True), (("given", {0: (0, 2)}), False),
                             (("given", {0: (0, 1, 2), 1: (0, 1, 2)}), True),
                             (("given", {0: (0, 2), 1: (0, 2)}), False),
                             (("given", {0: (0, 2), 1: (1, 2), 3: (1, 2, 3)}), False), (("given", {}), False)]:
            self.check(is_so, knownahead.is_known_paper, FITTING, 2, OTHER, thing)
        self.check(True, knownahead.is_known_paper, FITTING, 3, BOTH, ("last", (1, 3)))
        self.check(False, knownahead.is_known_paper, FITTING, 3, OTHER, ("last", (0, 1)))
        for history, index, one, paper in self.PAPERS:
            self.check(True, knownahead.is_known_paper, history, index, one, paper)

    def test_papers_of_other_calls_and_sums(self):
        papers = [paper for _, _, _, paper in self.PAPERS]
        for history in (FITTING, HALF, LATE):
            for index in told.everything(history):
                for one in oracle.worlds((3, 2)):
                    self.check_things(history, index, one, papers)

    def test_all_papers_of_small_histories(self):
        many = {"given": 0, "last": 0, "without": 0, "own": 0}
        chosen = random.Random(272)
        histories = some_histories(chosen, fitting_history, 25, 4) + some_histories(chosen, sound_history, 25, 4)
        for history in histories:
            lots, new = told.lots(told.everything(history)), told.new(history)
            things = [("own",)] + [("last", lot) for lot in lots]
            things += [("without", parting) for parting in oracle.worlds(history[0])]
            things += [("given", {key: lot for key in keys}) for keys in told.lots(new) for lot in lots]
            for index in told.everything(history):
                for one in chosen.sample(oracle.worlds(history[0]), min(4, history[0][0] ** history[0][1])):
                    for sort in many:
                        many[sort] += self.check_things(history, index, one,
                                                        [thing for thing in things if thing[0] == sort])
        self.assertGreater(min(many.values()), 20, many)

    def test_one_part_otherwise(self):
        for history, index, one, paper in self.PAPERS:
            things = near(paper)
            self.assertGreater(len(things), 40)
            self.check_things(history, index, one, things)
            self.check_things(HALF, 1, (0, 2), things)
            self.check_things(LATE, 3, BOTH, things)

    def test_keys_in_any_order(self):
        for holds in [{0: (0, 2), 1: (1, 2)}, {1: (1, 2), 0: (0, 2)}]:
            self.assertIs(knownahead.is_known_paper(FITTING, 2, OTHER, ("given", holds)), True)

    def test_truths_are_no_indexes_and_no_keys(self):
        for thing in [("given", {False: (0, 2), True: (1, 2)}), ("given", {0: (False, 2), 1: (1, 2)}),
                      ("given", {0: [0, 2], 1: (1, 2)}), ("given", {0: (0, 2), 1: (True, 2)}),
                      ("given", {0: (0, 2), True: (1, 2)}), ("given", ((0, (0, 2)), (1, (1, 2))))]:
            self.assertIs(knownahead.is_known_paper(FITTING, 2, OTHER, thing), False, thing)
        for thing in [("last", (True, 3)), ("last", [1, 3]), ("last", (3, 1)), ("last", (1, 3), 0), ("last",)]:
            self.assertIs(knownahead.is_known_paper(FITTING, 3, BOTH, thing), False, thing)
        for thing in [("without", (0, True)), ("without", [0, 1]), ("without", (False, 1)), ("without", (0, 3)),
                      ("without", (0, 1, 0)), ("without",), ("own",), ("without", (1, 1)), ("without", (0, 0))]:
            self.assertIs(knownahead.is_known_paper(HALF, 1, OTHER, thing), False, thing)

    def test_any_value(self):
        cases = [(FITTING, 2, OTHER), (FITTING, 0, ONE), (FITTING, 3, BOTH), (FITTING, 3, (0, 0)), (HALF, 1, OTHER),
                 (LATE, 3, BOTH), (NOTHING, 0, (0,)), (NOTHING, 1, (1,))]
        for history, index, one in cases:
            self.assertEqual(self.check_things(history, index, one, odd_values()), 0)
            for sort in ("given", "own", "last", "without"):
                for part in odd_values():
                    self.check_things(history, index, one, [(sort, part), [sort, part], (sort, part, part),
                                                            (sort, {0: part}), (sort, {0: part, 1: (1, 2)}), sort])

    def test_sound_histories_that_do_not_fit(self):
        # A hold is told of a history that is sound alone.
        self.check(True, knownahead.is_known_paper, LATE, 2, OTHER, ("given", {0: (0, 2), 1: (1, 2)}))
        self.check(True, knownahead.is_known_paper, LATE, 3, BOTH, ("given", {1: (1, 3)}))
        self.check(True, knownahead.is_known_paper, LATE, 3, BOTH, ("last", (1, 3)))
        self.check(False, knownahead.is_known_paper, LATE, 3, ONE, ("last", (0, 3)))
        self.check(True, knownahead.is_known_paper, LATE, 3, ONE, ("given", {0: (0, 3)}))
        self.check(True, knownahead.is_known_paper, NOTHING, 1, (1,), ("own",))
        self.check(True, knownahead.is_known_paper, NOTHING, 0, (1,), ("last", (0, 1)))
        self.check(True, knownahead.is_known_paper, NOTHING, 0, (0,), ("given", {}))


class TestNoFit(KnownCase):
    def test_told_whole(self):
        for history in (LATE, NOTHING, WRONG, ((2, 0), ((("tell", (), 0), 0, 1, "new"),))):
            self.check_no_fit(history)

    def test_by_chance(self):
        histories = unfit_histories(random.Random(273), 50, 4)
        self.assertGreater([told.sound(history) for history in histories].count(True), 10)
        self.assertGreater([told.sound(history) for history in histories].count(False), 10)
        for history in histories:
            self.check_no_fit(history)


if __name__ == "__main__":
    unittest.main()
