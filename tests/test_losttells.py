"""[30] and [9]: which lost tells can have been taken, beside all lots of them; loss papers are walked."""

import random
import unittest

from freshtold import losttells
from freshtold.errors import TooMany
from freshtold.misfits import misfit
from tests import history_oracle as told
from tests.cases import ToldCase
from tests.histories import EMPTY, FITTING, HOUSES, LATE, NOTHING
from tests.untold import CALLS, HISTORY, ONE, STRIFE, asks, holed_histories, many_lost
from tests.values import near, odd_values

SIGNATURES = {"lots_taken": ["history"], "least_taken": ["history"], "must_take": ["history"],
              "can_take": ["history"], "fits_somehow": ["history"], "loss_paper": ["history"],
              "is_loss_paper": ["history", "thing"]}
SEEN = ((2, 1), CALLS[:2] + ((("ask", ONE), 4, 5, 1),))
ODD = ((2, 1), (CALLS[0], (("ask", ONE), 1, 2, 0)))
PAPERS = {(0,): ("book", ("gainsaid", 1, {0: 1})), (): ("book", ("without", 0, (1,)))}
# Two lost tells of which one is needed, whichever; each alone lets the ask be answered so.
EITHER = ((2, 2), ((("tell", (1, 0), 1), 0, None, None), (("ask", (1, 1)), 1, None, None),
                   (("tell", (0, 1), 1), 0, 9, "new"), (("tell", (1, 1), 0), 2, None, None),
                   (("ask", (1, 0)), 3, 4, 1)))
# Stuck in a lot of calls if the tell is taken, and with a wrong book if it is not.
STUCK = ((2, 1), ((("ask", ONE), 0, 5, None), (("tell", ONE, 1), 4, None, None), (("ask", ONE), 1, 3, 1)))


class LossCase(ToldCase):
    def check_taken(self, history):
        """What is told of the lost tells is what all lots of them tell."""
        wanted = told.taken_lots(history)
        self.check(wanted, losttells.lots_taken, history)
        self.check([lot for lot in wanted if not any(set(other) < set(lot) for other in wanted)],
                   losttells.least_taken, history)
        always = ever = None
        if wanted:
            always = tuple(sorted(set.intersection(*[set(lot) for lot in wanted])))
            ever = tuple(sorted(set.union(*[set(lot) for lot in wanted])))
        self.check(always, losttells.must_take, history)
        self.check(ever, losttells.can_take, history)
        self.check(wanted != [], losttells.fits_somehow, history)
        self.check_paper(history, wanted != [])
        return len(wanted)

    def check_paper(self, history, fits):
        """There is a paper just if there is no filling; it has all lots, ascending, and shows of each what it must."""
        paper = self.call(losttells.loss_paper, history)
        if fits:
            self.assertIsNone(paper)
            return
        self.assertEqual(list(paper), told.lost_lots(history))
        self.assertTrue(told.a_loss_paper(history, paper), (history, paper))
        for lot, kind in paper.items():
            self.assertEqual(repr(kind), repr(misfit(told.filled(history, lot, ()))))
        self.check(True, losttells.is_loss_paper, history, paper)
        self.check(True, losttells.is_loss_paper, history, dict(reversed(paper.items())))

    def check_things(self, history, things):
        """Values are loss papers just if the words of the point say so; how many are."""
        many = 0
        for thing in things:
            wanted = told.a_loss_paper(history, thing)
            many += wanted
            self.assertIs(losttells.is_loss_paper(history, thing), wanted, (history, repr(thing)[:300]))
        return many


class TestInterface(ToldCase):
    def test_all_are_defined_in_the_file(self):
        self.check_interface(losttells, SIGNATURES)


class TestTaken(LossCase):
    def test_told_whole(self):
        self.check([(), (0,)], losttells.lots_taken, HISTORY)
        self.check((), losttells.must_take, HISTORY)
        self.check((0,), losttells.can_take, HISTORY)
        for function in (losttells.must_take, losttells.can_take):
            self.check((0,), function, SEEN)
            self.check(None, function, ODD)
        self.check([(0,)], losttells.least_taken, SEEN)
        self.check([], losttells.lots_taken, ODD)
        self.check([], losttells.least_taken, ODD)
        self.check(False, losttells.fits_somehow, ODD)
        self.check(True, losttells.fits_somehow, HISTORY)
        self.check(None, losttells.loss_paper, HISTORY)
        self.assertEqual(list(self.call(losttells.loss_paper, ODD)), [(), (0,)])

    def test_told_by_hand(self):
        # With both of them the last tell's row would not be independent of the others: so just one of both is taken.
        self.check([(0,), (3,)], losttells.lots_taken, EITHER)
        self.check([(0,), (3,)], losttells.least_taken, EITHER)
        self.check((), losttells.must_take, EITHER)
        self.check((0, 3), losttells.can_take, EITHER)
        self.check([(2,)], losttells.lots_taken, STRIFE)
        self.check([(1,)], losttells.lots_taken, (STUCK[0], (STUCK[1][0], STUCK[1][1][:1] + (2,) + STUCK[1][1][2:],
                                                             STUCK[1][2])))

    def test_in_the_order_of_python(self):
        history = many_lost(3)
        self.check([(), (0,), (0, 1), (0, 1, 2), (0, 2), (1,), (1, 2), (2,)], losttells.lots_taken, history)
        self.check([()], losttells.least_taken, history)

    def test_whole_histories(self):
        for history in [FITTING] + EMPTY:
            self.check([()], losttells.lots_taken, history)
            self.check((), losttells.must_take, history)
            self.check((), losttells.can_take, history)
        for history in (LATE, NOTHING):
            self.check([], losttells.lots_taken, history)
            self.check({(): misfit(history)}, losttells.loss_paper, history)

    def test_a_filling_is_told_by_its_lot(self):
        chosen = random.Random(300)
        for history in holed_histories(chosen, 20, 4, houses=[(2, 1), (2, 2), (3, 1)]):
            lots = {taken for taken, _ in told.fillings(history)}
            self.assertEqual(losttells.lots_taken(history), sorted(lots))

    def test_beside_all_lots(self):
        chosen, sizes = random.Random(30), []
        for history in [HISTORY, SEEN, ODD, EITHER, STUCK, STRIFE] + holed_histories(chosen, 110, 6):
            sizes.append(self.check_taken(history))
        self.assertGreater(sizes.count(0), 20)
        self.assertGreater(sizes.count(1), 20)
        self.assertGreater(len([size for size in sizes if size > 2]), 20)

    def test_six_lost_tells(self):
        chosen = random.Random(301)
        for house in [(2, 3), (3, 2), (7, 1)]:
            for _ in range(3):
                calls = [(("tell", one, chosen.randrange(2)), chosen.randrange(9), None, None)
                         for one in [tuple(chosen.randrange(2) for _ in range(house[1])) for _ in range(6)]]
                calls.append((("ask", (1,) * house[1]), 5, 6, chosen.choice([0, 1, "open"])))
                calls.append((("ask", (1,) * house[1]), 2, 4, "open"))
                self.check_taken((house, tuple(calls)))

    def test_many_calls(self):
        self.assertEqual(len(self.call(losttells.lots_taken, many_lost(6, asks(9, 4) + asks(9, None)))), 64)


class TestPapers(LossCase):
    def test_told_whole(self):
        self.check(True, losttells.is_loss_paper, ODD, PAPERS)
        self.check(True, losttells.is_loss_paper, ODD, dict(reversed(PAPERS.items())))
        self.check(False, losttells.is_loss_paper, ODD, {(): PAPERS[()]})
        for more in [{(1,): PAPERS[(0,)]}, {(0, 1): PAPERS[()]}, {0: PAPERS[()]}, {"0": PAPERS[()]}, {None: None}]:
            self.check(False, losttells.is_loss_paper, ODD, PAPERS | more)
            self.check(False, losttells.is_loss_paper, ODD, {(): PAPERS[()]} | more)
        # (False,) is the same key as (0,), but no lot.
        self.check(False, losttells.is_loss_paper, ODD, {(False,): PAPERS[(0,)], (): PAPERS[()]})
        self.check(False, losttells.is_loss_paper, HISTORY, PAPERS)

    def test_papers_of_stuck_lots(self):
        paper = losttells.loss_paper(STUCK)
        self.assertEqual(list(paper.items()), [((), ("book", ("without", 0, (1,)))), ((1,), ("stuck", (0, 1)))])
        self.assertGreater(self.check_things(STUCK, near(paper)), 0)

    def test_one_part_otherwise(self):
        chosen, many = random.Random(302), 0
        histories = [ODD, LATE, NOTHING] + holed_histories(chosen, 20, 4)
        for history in histories:
            paper = losttells.loss_paper(history)
            if paper is not None and len(paper) < 5:
                things = near(paper)
                self.assertGreater(self.check_things(history, chosen.sample(things, min(400, len(things)))), 0)
                many += 1
        self.assertGreater(many, 15)
        self.assertGreater(self.check_things(ODD, near(PAPERS)), 1)

    def test_any_value(self):
        for history in [HISTORY, SEEN, ODD, LATE, FITTING, ((2, 0), ())]:
            self.assertEqual(self.check_things(history, odd_values()), 0)
            for part in odd_values():
                self.check_things(history, [{(): part}, {(): part, (0,): PAPERS[(0,)]}, {(0,): part, (): PAPERS[()]},
                                            {(): ("book", part)}, {(): ("stuck", part)}])
            for part in [None, True, 0, "", "()", (0,), (True,), ((),), ((0,),)]:
                self.check_things(history, [{part: PAPERS[()]}, {(): PAPERS[()], part: PAPERS[(0,)]},
                                            PAPERS | {part: PAPERS[()]}])

    def test_no_paper_of_what_fits(self):
        for history in [HISTORY, SEEN, FITTING]:
            self.assertEqual(self.check_things(history, [{}, PAPERS] + near(PAPERS)[:500]), 0)


class TestTooMany(LossCase):
    def check_too_many(self, history, thing):
        for name, parameters in SIGNATURES.items():
            arguments = (history, thing) if "thing" in parameters else (history,)
            error = self.caught(TooMany, getattr(losttells, name), *arguments)
            self.assertEqual(repr(error.most), "6")

    def test_seven_lost_tells(self):
        for thing in [None, {}, PAPERS]:
            self.check_too_many(many_lost(7), thing)
            self.check_too_many(many_lost(8, asks(5, None) + asks(5, 3)), thing)
        # Ahead of that it does not fit.
        self.check_too_many(many_lost(7, ((("ask", (0,) * 8), 0, 0, "open"),)), {})

    def test_just_six(self):
        history = many_lost(6, asks(7, None) + asks(7, 3))
        for name, parameters in SIGNATURES.items():
            getattr(losttells, name)(*([history, {}] if "thing" in parameters else [history]))

    def test_lost_asks_and_unheard_asks_do_not_count(self):
        for house in HOUSES:
            history = (house, tuple((("ask", (0,) * house[1]), at, None if at % 2 else at, None) for at in range(24)))
            self.check([()], losttells.lots_taken, history)
            self.check(True, losttells.fits_somehow, history)


if __name__ == "__main__":
    unittest.main()
