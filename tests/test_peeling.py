"""[21] and [6], with what [2] says of BARRED and STUCK LOTS: all lots and all weavings of small histories."""

import random
import unittest

from freshtold import peeling
from freshtold.books import book_paper
from freshtold.errors import NotSound
from tests import history_oracle as told
from tests import oracle
from tests.cases import ToldCase
from tests.histories import (BOTH, EMPTY, FITTING, HOUSES, LATE, NOTHING, ONE, OTHER, answered, bent_history,
                             fitting_history, large_history, mixed_histories, some_histories, sound_history)

SIGNATURES = {"is_barred": ["history", "index", "lot"], "fits": ["history"], "may_go": ["history", "lot"],
              "peeled": ["history", "lot"], "weaving_of": ["history"]}
# Nothing is ahead of anything: call 2 leans on 0, 3 on both 0 and 1; 4 and 5 are open, 5 of a sum that is not given.
LEANING = ((3, 3), ((("tell", (1, 0, 0), 1), 0, 9, "new"), (("tell", (0, 1, 0), 2), 0, 9, "new"),
                    (("tell", (2, 0, 0), 2), 0, 9, "known"), (("tell", (1, 1, 0), 2), 0, 9, "clash"),
                    (("ask", (2, 1, 0)), 0, None, "open"), (("ask", (1, 1, 1)), 0, 9, "open"),
                    (("ask", (0, 0, 0)), 0, None, 0)))


class PeelingCase(ToldCase):
    def lots_of(self, history):
        return told.lots(told.everything(history))

    def check_lot(self, history, lot):
        """Who is barred by a lot, and what is left of it: beside the words of [2], and all parts of it."""
        for index in told.everything(history):
            self.check(told.barred(history, index, lot), peeling.is_barred, history, index, lot)
        self.check(tuple(index for index in lot if not told.barred(history, index, lot)),
                   peeling.may_go, history, lot)
        gone, rest = [], list(lot)
        while any(not told.barred(history, index, tuple(rest)) for index in rest):
            gone.append(max(index for index in rest if not told.barred(history, index, tuple(rest))))
            rest.remove(gone[-1])
        self.check((tuple(gone), tuple(rest)), peeling.peeled, history, lot)
        self.assertEqual(tuple(rest), told.greatest_stuck(history, lot))

    def check_sound(self, history):
        """A sound history fits if it has a weaving, and if it has no stuck lot; the weaving comes of peeling it."""
        everything, weavings = told.everything(history), told.weavings(history)
        self.check(bool(weavings), peeling.fits, history)
        gone, rest = self.call(peeling.peeled, history, everything)
        self.assertEqual(rest == (), bool(weavings))
        self.assertEqual(rest, told.greatest_stuck(history, everything))
        weaving = self.call(peeling.weaving_of, history)
        if weavings:
            self.assertEqual(weaving, gone[::-1])
            self.assertIn(weaving, weavings)
            self.assertTrue(oracle.a_weaving(history, weaving))
        else:
            self.assertIsNone(weaving)

    def check_unsound(self, history):
        """An unsound history does not fit; all others raise what book_paper returns, whatever they are asked."""
        self.check(False, peeling.fits, history)
        self.assertEqual(told.weavings(history), [])
        lots = self.lots_of(history)[:40]
        calls = [(peeling.weaving_of, history)]
        calls += [(function, history, lot) for function in (peeling.may_go, peeling.peeled) for lot in lots]
        calls += [(peeling.is_barred, history, index, lot) for index in told.everything(history) for lot in lots[:3]]
        self.check_papers(NotSound, book_paper(history), calls)


class TestInterface(ToldCase):
    def test_all_are_defined_in_the_file(self):
        self.check_interface(peeling, SIGNATURES)


class TestBarred(PeelingCase):
    def check_each(self, history, wanted):
        """A call is barred by just the lots in which one of the lots told of it lies."""
        for index in told.everything(history):
            for lot in self.lots_of(history):
                is_so = any(set(part) <= set(lot) for part in wanted.get(index, []))
                self.check(is_so, peeling.is_barred, history, index, lot)
                self.assertEqual(is_so, told.barred(history, index, lot))

    def test_by_calls_that_it_is_ahead_of(self):
        history = ((2, 0), ((("ask", ()), 0, 3, 0), (("ask", ()), 4, 5, 0), (("ask", ()), 3, 4, 0),
                            (("tell", (), 0), 6, 6, "known"), (("ask", ()), 0, None, 0)))
        self.check_each(history, {0: [(1,), (3,)], 1: [(3,)], 2: [(3,)]})

    def test_by_calls_that_lean_on_it(self):
        self.check_each(((LEANING[0]), LEANING[1][:4]), {0: [(2,), (3,)], 1: [(3,)]})

    def test_by_the_whole_reason_of_an_open_sum(self):
        self.check_each(LEANING, {0: [(2,), (3,)], 1: [(3,)], 4: [(0, 1)]})

    def test_by_each_lot_if_an_empty_sum_is_open(self):
        self.check_each(NOTHING, {0: [()]})
        self.check(True, peeling.is_barred, NOTHING, 0, ())
        self.check(False, peeling.is_barred, NOTHING, 1, ())
        self.check_each(((3, 0), ((("ask", ()), 0, 0, "open"), (("ask", ()), 0, 0, 0), (("ask", ()), 2, 3, "open"))),
                        {0: [()], 1: [(2,)], 2: [()]})

    def test_a_call_that_never_ended_is_ahead_of_none(self):
        for end, bars in ((None, {}), (5, {}), (4, {0: [(1,)]})):
            history = ((2, 1), ((("ask", (1,)), 0, end, "open"), (("ask", (1,)), 5, None, "open")))
            self.check_each(history, bars)

    def test_all_three_at_once(self):
        self.check_each(FITTING, {0: [(2,)], 1: [(2,)], 3: [(1,)]})
        self.check_each(LATE, {0: [(2,), (3,)], 1: [(2,), (3,)], 3: [(1,)]})

    def test_what_is_not_barred_by_a_lot_is_not_barred_by_a_part_of_it(self):
        for history in some_histories(random.Random(210), sound_history, 30, 5):
            for lot in self.lots_of(history):
                free = [index for index in told.everything(history) if not peeling.is_barred(history, index, lot)]
                for part in told.lots(lot):
                    self.assertFalse(any(peeling.is_barred(history, index, part) for index in free))


class TestPeeled(PeelingCase):
    def test_told_whole(self):
        self.check((2,), peeling.may_go, FITTING, (0, 1, 2, 3))
        self.check(((2, 1, 3, 0), ()), peeling.peeled, FITTING, (0, 1, 2, 3))
        self.check((0, 3, 1, 2), peeling.weaving_of, FITTING)
        self.check(((2,), (0, 1, 3)), peeling.peeled, LATE, (0, 1, 2, 3))
        self.check(((), (1, 3)), peeling.peeled, LATE, (1, 3))
        self.check(((3, 2), ()), peeling.peeled, LATE, (2, 3))
        self.check(None, peeling.weaving_of, LATE)
        self.check(((1,), (0,)), peeling.peeled, NOTHING, (0, 1))

    def test_no_calls(self):
        for history in EMPTY:
            self.check((), peeling.may_go, history, ())
            self.check(((), ()), peeling.peeled, history, ())
            self.check((), peeling.weaving_of, history)
            self.check(True, peeling.fits, history)

    def test_the_lot_of_none(self):
        for history in (FITTING, LATE, NOTHING, LEANING):
            self.check((), peeling.may_go, history, ())
            self.check(((), ()), peeling.peeled, history, ())

    def test_the_greatest_goes_first(self):
        free = ((2, 0), ((("ask", ()), 0, 9, 0),) * 5)
        self.check(((4, 3, 2, 1, 0), ()), peeling.peeled, free, (0, 1, 2, 3, 4))
        self.check(((4, 2, 1), ()), peeling.peeled, free, (1, 2, 4))
        self.check((0, 1, 2, 3, 4), peeling.weaving_of, free)
        # If one goes, a greater one may be free that was not.
        history = ((2, 0), ((("ask", ()), 8, 9, 0), (("ask", ()), 0, 9, 0), (("ask", ()), 0, 1, 0),
                            (("ask", ()), 0, 1, 0)))
        self.check(((1, 0, 3, 2), ()), peeling.peeled, history, (0, 1, 2, 3))
        self.check((2, 3, 0, 1), peeling.weaving_of, history)

    def test_all_lots_of_small_histories(self):
        for history in [FITTING, LATE, NOTHING, LEANING[:1] + (LEANING[1][:5],)] + some_histories(
                random.Random(21), sound_history, 60, 5) + some_histories(random.Random(211), fitting_history, 25, 5):
            for lot in self.lots_of(history):
                self.check_lot(history, lot)


class TestFits(PeelingCase):
    def test_by_chance(self):
        histories = mixed_histories(random.Random(212), 120, 6) + [LEANING]
        kinds = []
        for history in histories:
            is_sound = told.sound(history)
            kinds.append((is_sound, bool(told.weavings(history))))
            self.check_sound(history) if is_sound else self.check_unsound(history)
        for kind in ((True, True), (True, False), (False, False)):
            self.assertGreater(kinds.count(kind), 40, kind)

    def test_beside_all_orders(self):
        for history in some_histories(random.Random(213), sound_history, 60, 4):
            found = [order for order in told.all_orders(len(history[1])) if oracle.a_weaving(history, order)]
            self.assertEqual(found, told.weavings(history))
            self.check(found != [], peeling.fits, history)

    def test_the_answers_of_any_order_fit_if_none_is_ahead(self):
        chosen = random.Random(214)
        for history in some_histories(chosen, sound_history, 40, 7):
            stretched = tuple((deed, 0, 5) for deed, _, _, _ in history[1])
            order = chosen.sample(range(len(stretched)), len(stretched))
            free = answered(history[0], stretched, order)
            self.check(True, peeling.fits, free)
            self.assertTrue(oracle.a_weaving(free, self.call(peeling.weaving_of, free)))

    def test_one_moment_makes_a_difference(self):
        for begin, is_so in ((3, True), (4, False), (2, True)):
            history = ((2, 1), ((("tell", (1,), 1), 0, 3, "new"), (("ask", (1,)), begin, 9, "open")))
            self.check(is_so, peeling.fits, history)
            history = ((2, 1), ((("ask", (1,)), 0, 3, 1), (("tell", (1,), 1), begin, 9, "new")))
            self.check(is_so, peeling.fits, history)

    def test_houses_without_unknowns(self):
        for prime in (2, 3, 5, 7):
            self.check(False, peeling.fits, ((prime, 0), ((("ask", ()), 0, 1, "open"),)))
            self.check(True, peeling.fits, ((prime, 0), ((("ask", ()), 0, 1, 0),)))
            self.check(False, peeling.fits, ((prime, 0), ((("tell", (), 0), 0, 1, "new"),)))

    def test_many_calls(self):
        chosen = random.Random(215)
        for house in [(7, 8), (5, 8), (3, 6), (2, 8), (2, 1)]:
            history = large_history(chosen, house)
            self.check(True, peeling.fits, history)
            weaving = self.call(peeling.weaving_of, history)
            self.assertEqual(sorted(weaving), list(range(24)))
            place = {index: at for at, index in enumerate(weaving)}
            for index in range(24):
                for other in range(24):
                    if oracle.ahead(history, index, other):
                        self.assertLess(place[index], place[other])
                if history[1][index][3] != "new":
                    # What leans on others stands behind them, and no other answer is there but what is given.
                    lot = weaving[place[index] + 1:]
                    self.check(False, peeling.is_barred, history, index, tuple(sorted(set(range(24)) - set(lot))))


class TestNotSound(PeelingCase):
    def test_told_whole(self):
        for house in HOUSES:
            empty = (0,) * house[1]
            self.check_unsound((house, ((("tell", empty, 1), 0, 1, "new"), (("ask", empty), 0, 1, 1))))
        self.check_unsound(((3, 2), ((("tell", ONE, 1), 0, 3, "new"), (("ask", OTHER), 2, 6, 0))))
        self.check_unsound(((3, 2), ((("tell", ONE, 1), 0, 3, "new"), (("tell", (2, 0), 2), 2, 6, "clash"),
                                     (("tell", BOTH, 2), 0, 1, "known"))))

    def test_by_chance(self):
        histories = [history for history in some_histories(random.Random(216), bent_history, 80, 5)
                     if not told.sound(history)]
        self.assertGreater(len(histories), 20)
        for history in histories:
            self.check_unsound(history)


if __name__ == "__main__":
    unittest.main()
