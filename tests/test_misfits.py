"""[22]: misfit papers of small histories, beside all their weavings and all their lots."""

import random
import unittest

from freshtold import misfits
from freshtold.books import book_paper
from tests import history_oracle as told
from tests.cases import ToldCase
from tests.histories import (BOTH, CALLS, EMPTY, FITTING, LATE, NOTHING, ONE, OTHER, bent_history, fitting_history,
                             mixed_histories, some_histories, sound_history)
from tests.values import near, odd_values

SIGNATURES = {"misfit": ["history"], "why_barred": ["history", "index", "lot"], "small_stuck": ["history"],
              "is_misfit": ["history", "thing"], "is_stuck": ["history", "thing"]}
WRONG = ((3, 2), CALLS[:2] + ((("ask", OTHER), 2, 6, 0),))
TWICE = ((3, 2), (CALLS[0], (("tell", (2, 0), 0), 5, 6, "new")))
# Not sound; but what is ahead, or leans, would make lots of its calls stuck.
WRONG_AND_LATE = ((3, 2), ((("ask", ONE), 0, 1, 1), (("tell", ONE, 1), 4, 5, "new"), (("ask", OTHER), 2, 6, 0)))
# Call 0 is ahead of all others; 3 heard what 4 told later; 5 is open though 4 was over.
TANGLED = ((2, 2), ((("ask", (1, 1)), 0, 0, "open"), (("ask", OTHER), 1, 9, "open"), (("ask", (0, 0)), 2, 3, 0),
                    (("ask", ONE), 1, 2, 1), (("tell", ONE, 1), 3, 4, "new"), (("ask", ONE), 5, 9, "open")))
# Call 0 heard what 1 told later, 3 is open though 2 was over; an empty sum is open, too.
TWO_STUCK = ((2, 2), ((("ask", ONE), 0, 1, 1), (("tell", ONE, 1), 2, 3, "new"), (("tell", OTHER, 0), 0, 1, "new"),
                      (("ask", OTHER), 2, 3, "open"), (("ask", (0, 0)), 0, None, 0), (("ask", (0, 0)), 0, 9, "open")))


def lots_of(history):
    return told.lots(told.everything(history))


class MisfitCase(ToldCase):
    def check_misfit(self, history):
        """None, if there is a weaving; else the paper that the point tells, which is one; its kind, or "fits"."""
        paper = self.call(misfits.misfit, history)
        if not told.sound(history):
            self.assertEqual(repr(paper), repr(("book", book_paper(history))))
            self.assertTrue(told.a_misfit(history, paper))
        elif told.weavings(history):
            self.assertIsNone(paper)
            return "fits"
        else:
            self.assertEqual(repr(paper), repr(("stuck", told.greatest_stuck(history, told.everything(history)))))
            self.assertTrue(told.a_misfit(history, paper))
        self.check(True, misfits.is_misfit, history, paper)
        return paper[0]

    def check_lots(self, history):
        """Which lots of a sound history are stuck, and why a call is barred by a lot."""
        for lot in lots_of(history):
            is_so = told.stuck(history, lot)
            self.check(is_so, misfits.is_stuck, history, lot)
            self.check(is_so, misfits.is_misfit, history, ("stuck", lot))
            for index in told.everything(history):
                why = told.why(history, index, lot)
                self.check(why[0] if why else None, misfits.why_barred, history, index, lot)

    def check_small(self, history):
        """The small stuck lot is found just as the point says, and no part of it is stuck."""
        lot = told.greatest_stuck(history, told.everything(history))
        for index in lot:
            rest = told.greatest_stuck(history, tuple(other for other in lot if other != index))
            if index in lot and rest:
                lot = rest
        self.check(lot or None, misfits.small_stuck, history)
        self.assertEqual([part for part in told.lots(lot) if told.stuck(history, part)], [lot] if lot else [])

    def check_things(self, history, things):
        """Values are misfit papers, or stuck lots, just if the words say so; how many are."""
        many = 0
        for thing in things:
            is_paper = told.a_misfit(history, thing)
            many += is_paper
            self.assertIs(misfits.is_misfit(history, thing), is_paper, (history, repr(thing)[:300]))
            if told.sound(history):
                is_stuck = told.a_misfit(history, ("stuck", thing))
                many += is_stuck
                self.assertIs(misfits.is_stuck(history, thing), is_stuck, (history, repr(thing)[:300]))
        return many


class TestInterface(ToldCase):
    def test_all_are_defined_in_the_file(self):
        self.check_interface(misfits, SIGNATURES)


class TestMisfit(MisfitCase):
    def test_told_whole(self):
        for history, wanted in [
                (FITTING, None), (LATE, ("stuck", (0, 1, 3))), (NOTHING, ("stuck", (0,))),
                (WRONG, ("book", ("gainsaid", 2, {0: 2, 1: 1}))), (TANGLED, ("stuck", (0, 2, 3, 4, 5))),
                (TWO_STUCK, ("stuck", (0, 1, 2, 3, 5)))]:
            self.check(wanted, misfits.misfit, history)
            self.check_misfit(history)
        self.assertEqual(self.check_misfit(TWICE), "book")
        self.assertEqual(self.check_misfit(WRONG_AND_LATE), "book")
        for history in EMPTY:
            self.check(None, misfits.misfit, history)

    def test_by_chance(self):
        kinds = [self.check_misfit(history) for history in mixed_histories(random.Random(22), 150, 6)]
        for kind in ("fits", "book", "stuck"):
            self.assertGreater(kinds.count(kind), 50, kind)


class TestStuck(MisfitCase):
    def test_told_whole(self):
        for lot, is_so in [((), False), ((1, 3), True), ((0, 1), False), ((0, 1, 3), True), ((0, 1, 2, 3), False)]:
            self.check(is_so, misfits.is_stuck, LATE, lot)
            self.check(is_so, misfits.is_misfit, LATE, ("stuck", lot))
        for history in [LATE, TANGLED, TWO_STUCK, NOTHING, FITTING]:
            self.check_lots(history)
        self.assertEqual([lot for lot in lots_of(TWO_STUCK) if misfits.is_stuck(TWO_STUCK, lot)],
                         [(5,), (0, 1), (2, 3), (0, 1, 2), (0, 1, 5), (0, 2, 3), (2, 3, 5), (0, 1, 2, 3),
                          (0, 1, 2, 5), (0, 2, 3, 5), (0, 1, 2, 3, 5)])

    def test_nothing_is_stuck_if_it_fits(self):
        for history in some_histories(random.Random(220), fitting_history, 30, 6):
            self.assertFalse(any(misfits.is_stuck(history, lot) for lot in lots_of(history)))

    def test_by_chance(self):
        for history in some_histories(random.Random(221), sound_history, 60, 5):
            self.check_lots(history)

    def test_a_history_that_is_not_sound_has_no_stuck_paper(self):
        for lot in lots_of(WRONG_AND_LATE):
            self.check(False, misfits.is_misfit, WRONG_AND_LATE, ("stuck", lot))
        for history in some_histories(random.Random(222), bent_history, 60, 5):
            if not told.sound(history):
                for lot in lots_of(history):
                    self.check(False, misfits.is_misfit, history, ("stuck", lot))


class TestPapers(MisfitCase):
    def papers(self):
        return [(LATE, ("stuck", (1, 3))), (LATE, ("stuck", (0, 1, 3))), (NOTHING, ("stuck", (0,))),
                (WRONG, ("book", ("gainsaid", 2, {0: 2, 1: 1}))), (TWICE, ("book", ("depends", {0: 1, 1: 1}))),
                (TWO_STUCK, ("stuck", (0, 1, 5))), (WRONG_AND_LATE, ("book", ("without", 2, (0, 1))))]

    def test_one_part_otherwise(self):
        histories = [history for history, _ in self.papers()] + [FITTING]
        for history, paper in self.papers():
            self.check(True, misfits.is_misfit, history, paper)
            things = near(paper)
            self.assertGreater(len(things), 100)
            for other in histories:
                self.check_things(other, things)

    def test_lots_with_one_part_otherwise(self):
        many = 0
        for history in (LATE, NOTHING, TWO_STUCK, TANGLED, FITTING):
            for lot in [(1, 3), (0, 1, 3), (0,), (0, 1), (2, 3, 5)]:
                many += self.check_things(history, near(lot))
        self.assertGreater(many, 20)

    def test_book_papers_stand_in_a_pair(self):
        paper = ("gainsaid", 2, {1: 1, 0: 2})
        for thing, is_so in [(("book", paper), True), (paper, False), (("book",) + paper, False), (("book",), False),
                             (["book", paper], False), (("stuck", paper), False), (("book", list(paper)), False),
                             (("book", paper, 0), False), (("book", None), False)]:
            self.check(is_so, misfits.is_misfit, WRONG, thing)

    def test_any_value(self):
        for history in (FITTING, LATE, NOTHING, TANGLED, WRONG, TWICE, WRONG_AND_LATE, ((2, 0), ()), ((7, 3), ())):
            self.check_things(history, odd_values())
            for kind in ("book", "stuck"):
                for part in odd_values():
                    self.check_things(history, [(kind, part), [kind, part], (kind, part, part), (part, (0,))])

    def test_truths_are_no_indexes(self):
        self.check(True, misfits.is_stuck, TWO_STUCK, (0, 1))
        for thing in [(False, 1), (0, True), (False, True), [0, 1], (1, 0), (0, 0, 1), (0, 1, 6), (-1, 0, 1), (0, 1.0)]:
            self.assertIs(misfits.is_stuck(TWO_STUCK, thing), False)
            self.assertIs(misfits.is_misfit(TWO_STUCK, ("stuck", thing)), False)


class TestWhy(MisfitCase):
    def test_told_whole(self):
        for index, lot, wanted in [
                (0, (0, 1, 3), ("ahead", 3)), (1, (1, 2, 3), ("ahead", 3)), (3, (1, 3), ("whole", (1,))),
                (2, (2, 3), None), (0, (0, 1, 2), ("leaned", 2)), (1, (0, 1), None), (3, (0, 3), None),
                (0, (), None), (3, (1,), ("whole", (1,)))]:
            self.check(wanted, misfits.why_barred, LATE, index, lot)
        self.check(("whole", ()), misfits.why_barred, NOTHING, 0, ())
        self.check(("whole", ()), misfits.why_barred, NOTHING, 0, (0, 1))
        self.check(None, misfits.why_barred, NOTHING, 1, (0, 1))

    def test_the_first_that_is_so(self):
        # Call 0 is open, and ahead of 2, 3 and 4; 3 and 4 lean on all of its reason, 1 and 2; 1 is ahead of 4.
        history = ((3, 2), ((("ask", BOTH), 0, 1, "open"), (("tell", ONE, 1), 0, 3, "new"),
                            (("tell", OTHER, 1), 3, 9, "new"), (("ask", BOTH), 2, 9, 2),
                            (("tell", (2, 2), 1), 4, 9, "known")))
        for index, lot, wanted in [
                (0, (0, 1, 2, 3, 4), ("ahead", 2)), (0, (1, 3, 4), ("ahead", 3)), (0, (1, 4), ("ahead", 4)),
                (0, (0, 1), None), (1, (0, 1, 2, 3, 4), ("ahead", 4)), (1, (0, 1, 2, 3), ("leaned", 3)),
                (1, (1, 2), None), (2, (2, 3, 4), ("leaned", 3)), (2, (2, 4), ("leaned", 4)), (2, (0, 1, 2), None)]:
            self.check(wanted, misfits.why_barred, history, index, lot)
        open_late = ((3, 2), ((("ask", BOTH), 0, 9, "open"),) + history[1][1:])
        self.check(("whole", (1, 2)), misfits.why_barred, open_late, 0, (0, 1, 2, 3, 4))
        self.check(("whole", (1, 2)), misfits.why_barred, open_late, 0, (1, 2))
        self.check(None, misfits.why_barred, open_late, 0, (1, 3, 4))
        self.check_lots(history)
        self.check_lots(open_late)


class TestSmall(MisfitCase):
    def test_told_whole(self):
        for history, wanted in [(FITTING, None), (LATE, (1, 3)), (NOTHING, (0,)), (TWO_STUCK, (5,)), (TANGLED, (4, 5)),
                                ((TWO_STUCK[0], TWO_STUCK[1][:5]), (2, 3))]:
            self.check_small(history)
            self.check(wanted, misfits.small_stuck, history)
        for history in EMPTY:
            self.check(None, misfits.small_stuck, history)

    def test_by_chance(self):
        stuck = 0
        for history in some_histories(random.Random(223), sound_history, 150, 7):
            self.check_small(history)
            stuck += not told.weavings(history)
        self.assertGreater(stuck, 40)

    def test_many_calls(self):
        # Each ask heard what was told only later: eight pairs, each stuck; the last one is left.
        calls = []
        for at in range(8):
            one = (0,) * at + (1,) + (0,) * (7 - at)
            calls += [(("ask", one), 0, 1, 1), (("tell", one, 1), 2, 3, "new")]
        history = ((2, 8), tuple(calls) + ((("ask", (0,) * 8), 4, 5, 0),) * 8)
        self.check(("stuck", tuple(range(16))), misfits.misfit, history)
        self.check((14, 15), misfits.small_stuck, history)
        self.check(True, misfits.is_stuck, history, tuple(range(16)))
        self.check(("leaned", 6), misfits.why_barred, history, 7, (6, 7))


if __name__ == "__main__":
    unittest.main()
