"""The examples of the document; and that the package's own file is empty."""

import pathlib
import unittest

import freshtold
from freshtold.alike import idle_answers, parted_by, same_weavings
from freshtold.books import book_paper, is_book_paper, is_sound
from freshtold.calls import ahead_of, asked_calls, behind_of, is_ahead, lost_calls, new_calls, unheard_calls
from freshtold.claims import hold_of, holds_always, holds_in, is_hold, surely_ahead, weaving_against
from freshtold.conditions import (answer_conditions, can_all_hold, conditions, follows, least_claims,
                                  needless)
from freshtold.desk import Desk
from freshtold.fillings import filled, fillings, heard, is_filling
from freshtold.knownahead import ever_ahead, is_known_paper, known_ahead, known_paper, sure_ahead, weaving_where
from freshtold.leastlots import (earliest_place, greatest_weaving, least_lots, least_weaving, weaving_from,
                                 weavings_many)
from freshtold.leftout import beside, idle_calls, is_turning, turned, turned_back, without
from freshtold.losttells import can_take, fits_somehow, is_loss_paper, least_taken, loss_paper, lots_taken, must_take
from freshtold.misfits import is_misfit, is_stuck, misfit, small_stuck, why_barred
from freshtold.moments import given_from, known_at, open_until, probed, sure_at
from freshtold.newlots import can_be_new, gone_on, new_lots, waits_for
from freshtold.peeling import fits, is_barred, may_go, peeled, weaving_of
from freshtold.reader import read_history, read_plan
from freshtold.reasons import leaners, new_rows, number_of, reason_of, reasons
from freshtold.slack import slack, slack_paper, widened
from freshtold.stores import Store
from freshtold.sums import added, are_independent, comes_to, dependence, given_by, made_by, strife_of, times, world_of
from freshtold.sureness import (can_answer, is_known_by, is_open_by, known_by, never_new, order_for, rank_of,
                                sure_answer, sure_new)
from freshtold.texts import show_history, show_plan
from freshtold.watch import Watch
from freshtold.weavings import (answers_by, early_order, first_wrong, is_order, is_weaving, late_order, run_by,
                                store_at)

ONE, BOTH, OTHER = (1, 0), (1, 1), (0, 1)
# The calls of most examples from stage 3 on.
CALLS = ((("tell", ONE, 1), 0, 3, "new"), (("tell", BOTH, 2), 1, 4, "new"), (("ask", OTHER), 2, 6, 1),
         (("ask", BOTH), 0, 9, "open"))
HISTORY = ((3, 2), CALLS)


class TestStage1(unittest.TestCase):
    def test_rows(self):
        house, rows = (5, 2), (((1, 2), 3), ((0, 1), 4))
        shown = [made_by(house, rows, (1, 3)), given_by(house, rows, (2, 0)), given_by(house, rows[:1], (0, 1)),
                 world_of(house, rows)]
        self.assertEqual(shown, [((1, 0), 0), (0, (2, 1)), None, (0, 4)])

    def test_sums(self):
        house, rows = (5, 2), (((1, 2), 3), ((0, 1), 4))
        shown = [added(house, (1, 2), (4, 4)), times(house, 3, (1, 2)), comes_to(house, (0, 4), (1, 1)),
                 are_independent(house, rows)]
        self.assertEqual(shown, [(0, 1), (3, 1), 4, True])

    def test_more_rows(self):
        house, more = (5, 2), (((1, 2), 3), ((0, 1), 4), ((1, 3), 0))
        shown = [made_by(house, more, dependence(house, more))[0], world_of(house, more),
                 made_by(house, more, strife_of(house, more))[1] > 0]
        self.assertEqual(shown, [(0, 0), None, True])

    def test_texts(self):
        history = read_history("house 3 2\n# two calls\ntell 1 0 = 1 at 0 3 new\n ask 1  1 at 2 never -")
        self.assertEqual(history, ((3, 2), ((('tell', (1, 0), 1), 0, 3, 'new'), (('ask', (1, 1)), 2, None, None))))
        self.assertEqual(show_history(history), 'house 3 2\ntell 1 0 = 1 at 0 3 new\nask 1 1 at 2 never -')
        self.assertEqual([show_plan(((2, 0), ((("ask", ()), -1, 4),))), read_plan("house 7 1\ntell 2 = 6 at 0 0")],
                         ['house 2 0\nask at -1 4', ((7, 1), ((('tell', (2,), 6), 0, 0),))])


class TestStage2(unittest.TestCase):
    def test_stores(self):
        store = Store((3, 2))
        shown = [store.tell((1, 0), 1), store.tell((2, 0), 2), store.tell((2, 0), 0), store.ask((1, 1)),
                 store.tell((1, 1), 0), store.ask((0, 2))]
        self.assertEqual(shown, ['new', 'known', 'clash', 'open', 'new', 1])
        shown = [store.rows(), store.reason((0, 2)), store.reason((0, 0)), store.can_hold((1, 2)),
                 store.can_hold((1, 1))]
        self.assertEqual(shown, [(((1, 0), 1), ((1, 1), 0)), {0: 1, 1: 2}, {}, True, False])

    def history(self):
        one, both = (1, 0), (1, 1)
        return ((3, 2), ((("tell", one, 1), 0, 3, "new"), (("ask", both), 2, 6, None),
                         (("tell", both, 2), 4, None, None), (("ask", one), 1, 9, 1)))

    def test_calls(self):
        history = self.history()
        shown = [is_ahead(history, 0, 2), is_ahead(history, 0, 1), ahead_of(history, 2), behind_of(history, 0),
                 asked_calls(history)]
        self.assertEqual(shown, [True, False, (0,), (2,), (1, 3)])
        self.assertEqual([new_calls(history), lost_calls(history), unheard_calls(history)], [(0,), (2,), (1,)])

    def test_weavings(self):
        history = self.history()
        shown = [is_order(history, (1, 0, 2, 3)), is_order(history, (2, 0, 1, 3)),
                 answers_by(history, (1, 0, 2, 3)), answers_by(history, (3, 0, 2, 1))]
        self.assertEqual(shown, [True, False, ('new', 'open', 'new', 1), ('new', 2, 'new', 'open')])
        whole = run_by(history, (1, 0, 2, 3))
        shown = [is_weaving(whole, (1, 0, 3, 2)), is_weaving(whole, (0, 2, 1, 3)), first_wrong(whole, (0, 2, 1, 3)),
                 store_at(whole, (1, 0, 3, 2), 2)]
        self.assertEqual(shown, [True, False, 2, (((1, 0), 1),)])
        shown = [early_order(history, 1), late_order(history, 0), early_order(history, 2)]
        self.assertEqual(shown, [(1, 0, 3, 2), (3, 1, 0, 2), (0, 2, 3, 1)])


class TestStage3(unittest.TestCase):
    def test_reasons(self):
        shown = [new_rows(HISTORY), reason_of(HISTORY, OTHER), number_of(HISTORY, (0, 2)), reasons(HISTORY),
                 leaners(HISTORY, 0)]
        self.assertEqual(shown, [(((1, 0), 1), ((1, 1), 2)), {0: 2, 1: 1}, 2, ((0,), (1,), (0, 1), (1,)), (2,)])
        self.assertEqual([is_sound(HISTORY), book_paper(HISTORY), reason_of(HISTORY, (0, 0))], [True, None, {}])

    def test_books(self):
        wrong = ((3, 2), CALLS[:2] + ((("ask", OTHER), 2, 6, 0),))
        shown = [is_sound(wrong), book_paper(wrong), is_book_paper(wrong, ("gainsaid", 2, {1: 1, 0: 2})),
                 is_book_paper(wrong, ("gainsaid", 2, {1: 1}))]
        self.assertEqual(shown, [False, ('gainsaid', 2, {0: 2, 1: 1}), True, False])
        few = ((3, 2), (CALLS[0], (("tell", BOTH, 2), 1, 4, "known")))
        shown = [is_book_paper(few, ("without", 1, (0, 2))), is_book_paper(few, ("without", 1, (1, 0))),
                 is_book_paper(few, ("depends", {}))]
        self.assertEqual(shown, [True, False, False])
        twice = ((3, 2), (CALLS[0], (("tell", (2, 0), 0), 5, 6, "new")))
        shown = [is_sound(twice), is_book_paper(twice, ("depends", {0: 1, 1: 1})),
                 is_book_paper(twice, ("depends", {0: 1, 1: 2}))]
        self.assertEqual(shown, [False, True, False])


class TestStage4(unittest.TestCase):
    late = ((3, 2), CALLS[:3] + ((("ask", BOTH), 5, 9, "open"),))

    def test_a_history_that_fits(self):
        shown = [may_go(HISTORY, (0, 1, 2, 3)), is_barred(HISTORY, 3, (0, 1, 2, 3)), is_barred(HISTORY, 3, (0, 3)),
                 is_barred(HISTORY, 0, (2,))]
        self.assertEqual(shown, [(2,), True, False, True])
        shown = [peeled(HISTORY, (0, 1, 2, 3)), weaving_of(HISTORY), fits(HISTORY), misfit(HISTORY)]
        self.assertEqual(shown, [((2, 1, 3, 0), ()), (0, 3, 1, 2), True, None])

    def test_one_that_does_not(self):
        late = self.late
        self.assertEqual([fits(late), peeled(late, (0, 1, 2, 3)), misfit(late), small_stuck(late)],
                         [False, ((2,), (0, 1, 3)), ('stuck', (0, 1, 3)), (1, 3)])
        shown = [why_barred(late, 0, (0, 1, 3)), why_barred(late, 1, (1, 2, 3)), why_barred(late, 3, (1, 3)),
                 why_barred(late, 2, (2, 3))]
        self.assertEqual(shown, [('ahead', 3), ('ahead', 3), ('whole', (1,)), None])
        shown = [is_stuck(late, (1, 3)), is_stuck(late, (0, 1)), is_misfit(late, ("stuck", (1, 3))),
                 is_misfit(HISTORY, ("stuck", ()))]
        self.assertEqual(shown, [True, False, True, False])

    def test_an_empty_sum_that_is_open(self):
        nothing = ((2, 1), ((("ask", (0,)), 0, 1, "open"), (("tell", (1,), 1), 0, None, "new")))
        self.assertEqual([misfit(nothing), weaving_of(((2, 0), ())), why_barred(nothing, 0, (0,))],
                         [('stuck', (0,)), (), ('whole', ())])


class TestStage5(unittest.TestCase):
    def test_claims(self):
        shown = [surely_ahead(HISTORY), holds_in((3, 1, 0, 2), (0, (1,))), holds_in((3, 1, 0, 2), (0, (1, 2)))]
        self.assertEqual(shown, [((2,), (2,), (), (1, 2)), False, True])
        shown = [holds_always(HISTORY, (3, (2,))), hold_of(HISTORY, (3, (2,))), is_hold(HISTORY, (3, (2,)), (1, 2, 3)),
                 is_hold(HISTORY, (3, (2,)), (2, 3))]
        self.assertEqual(shown, [True, (0, 1, 2, 3), True, False])
        shown = [hold_of(HISTORY, (0, (1,))), weaving_against(HISTORY, (0, (1,))),
                 weaving_against(HISTORY, (3, (0, 1)))]
        self.assertEqual(shown, [None, (3, 1, 0, 2), None])

    def test_least_lots(self):
        shown = [weavings_many(HISTORY), least_weaving(HISTORY), greatest_weaving(HISTORY),
                 weaving_from(HISTORY, (3, 1)), weaving_from(HISTORY, (1,))]
        self.assertEqual(shown, [3, (0, 3, 1, 2), (3, 1, 0, 2), (3, 1, 0, 2), None])
        shown = [least_lots(HISTORY, 3), least_lots(HISTORY, 0), least_lots(HISTORY, 2), earliest_place(HISTORY, 2),
                 earliest_place(HISTORY, 1)]
        self.assertEqual(shown, [[(1,), (2,)], [(2,)], [], 3, 1])


class TestStage6(unittest.TestCase):
    soon = ((3, 2), CALLS[:3] + ((("ask", BOTH), 0, 0, "open"),))

    def test_conditions(self):
        self.assertEqual([conditions(HISTORY), answer_conditions(HISTORY, 2), answer_conditions(HISTORY, 0)],
                         [[(0, (2,)), (1, (2,)), (3, (1,))], [(0, (2,)), (1, (2,))], []])
        shown = [conditions(self.soon)[2:], needless(4, conditions(self.soon)),
                 least_claims(4, conditions(self.soon)) == conditions(HISTORY)]
        self.assertEqual(shown, [[(3, (1,)), (3, (2,))], [(3, (2,))], True])
        shown = [follows(3, [(0, (1,)), (1, (2,))], (0, (2,))), follows(3, [(0, (1, 2))], (0, (2,))),
                 follows(2, [(0, (1,)), (1, (0,))], (0, (1,)))]
        self.assertEqual(shown, [True, False, True])

    def test_alike(self):
        shown = [same_weavings(HISTORY, self.soon), parted_by(HISTORY, self.soon), idle_answers(HISTORY),
                 idle_answers(self.soon)]
        self.assertEqual(shown, [True, None, (), (3,)])
        told = ((3, 2), CALLS[:3] + ((("ask", BOTH), 0, 9, 2),))
        shown = [same_weavings(HISTORY, told), parted_by(HISTORY, told)[0],
                 can_all_hold(4, conditions(HISTORY) + conditions(told))]
        self.assertEqual(shown, [False, 0, False])


class TestStage7(unittest.TestCase):
    def test_known_ahead(self):
        shown = [known_ahead(HISTORY, 2, OTHER), known_ahead(HISTORY, 1, ONE), known_ahead(HISTORY, 3, (2, 2)),
                 known_ahead(HISTORY, 0, ONE)]
        self.assertEqual(shown, ['given', 'either', 'open', 'open'])
        shown = [sure_ahead(HISTORY, 2), sure_ahead(HISTORY, 1), ever_ahead(HISTORY, 1),
                 weaving_where(HISTORY, 2, OTHER, False)]
        self.assertEqual(shown, [(0, 1), (), (0,), None])

    def test_knowing_papers(self):
        self.assertEqual([known_paper(HISTORY, 1, ONE), known_paper(HISTORY, 0, ONE), known_ahead(HISTORY, 3, (0, 0))],
                         [None, ('own',), 'given'])
        shown = [is_known_paper(HISTORY, 2, OTHER, ("given", {1: (1, 2), 0: (0, 2)})),
                 is_known_paper(HISTORY, 2, OTHER, ("given", {0: (0, 2)}))]
        self.assertEqual(shown, [True, False])
        shown = [is_known_paper(HISTORY, 3, BOTH, ("last", (1, 3))),
                 is_known_paper(HISTORY, 3, OTHER, ("last", (0, 1)))]
        self.assertEqual(shown, [True, False])


    def test_moments(self):
        shown = [is_known_paper(HISTORY, 3, BOTH, ("last", (1, 3))),
                 is_known_paper(HISTORY, 3, OTHER, ("last", (0, 1))), probed(HISTORY, 4)[1][4]]
        self.assertEqual(shown, [True, False, (('ask', (0, 0)), 4, 4, 0)])
        shown = [known_at(HISTORY, -1, ONE), known_at(HISTORY, 0, ONE), known_at(HISTORY, 4, ONE), sure_at(HISTORY, 4),
                 sure_at(HISTORY, 5)]
        self.assertEqual(shown, ['open', 'either', 'given', (0,), (0, 1)])
        shown = [given_from(HISTORY, OTHER), open_until(HISTORY, OTHER), given_from(HISTORY, (0, 0)),
                 open_until(HISTORY, ONE)]
        self.assertEqual(shown, [('from', 5), ('until', 0), ('always',), ('until', -1)])


class TestStage8(unittest.TestCase):
    calls = ((("tell", (1,), 1), 0, None, None), (("ask", (1,)), 1, 2, None), (("ask", (1,)), 4, 5, None))
    history = ((2, 1), calls)

    def test_fillings(self):
        history = self.history
        self.assertEqual([fillings(history), heard(history, 1), lots_taken(history)],
                         [[((), ('open', 'open')), ((0,), (1, 1)), ((0,), ('open', 1)), ((0,), ('open', 'open'))],
                          [1, 'open'], [(), (0,)]])
        shown = [is_filling(history, ((0,), (1, "open"))), is_filling(history, ((0,), (0, 1))),
                 is_filling(history, ((0,), ["open", 1]))]
        self.assertEqual(shown, [False, False, False])
        self.assertEqual(filled(history, (0,), (1, 1)), ((2, 1), (
            (('tell', (1,), 1), 0, None, 'new'), (('ask', (1,)), 1, 2, 1), (('ask', (1,)), 4, 5, 1))))

    def test_lost_tells(self):
        seen = ((2, 1), (self.calls[0], self.calls[1], (("ask", (1,)), 4, 5, 1)))
        shown = [must_take(seen), can_take(seen), least_taken(seen), heard(seen, 1), must_take(self.history)]
        self.assertEqual(shown, [(0,), (0,), [(0,)], [1, 'open'], ()])
        odd = ((2, 1), (self.calls[0], (("ask", (1,)), 1, 2, 0)))
        shown = [fits_somehow(odd), must_take(odd), fits_somehow(self.history), loss_paper(self.history),
                 sorted(loss_paper(odd))]
        self.assertEqual(shown, [False, None, True, None, [(), (0,)]])
        papers = {(0,): ("book", ("gainsaid", 1, {0: 1})), (): ("book", ("without", 0, (1,)))}
        self.assertEqual([is_loss_paper(odd, papers), is_loss_paper(odd, {(): papers[()]}), lots_taken(odd)],
                         [True, False, []])


class TestStage9(unittest.TestCase):
    calls = ((("tell", ONE, 1), 0, 2), (("tell", BOTH, 0), 1, 6), (("tell", OTHER, 2), 3, 7), (("ask", BOTH), 4, 5),
             (("tell", ONE, 1), 8, 9))
    plan = ((3, 2), calls)

    def test_sure_answers(self):
        plan = self.plan
        shown = [rank_of(plan), [can_answer(plan, index) for index in range(5)], sure_answer(plan, 4),
                 sure_answer(plan, 3)]
        self.assertEqual(shown, [2, [['new'], ['known', 'new'], ['known', 'new'], [0, 'open'], ['known']], 'known',
                                 None])
        shown = [sure_new(plan), never_new(plan), is_known_by(plan, 4, known_by(plan, 4)), known_by(plan, 3),
                 is_known_by(plan, 4, {1: 1, 2: 2})]
        self.assertEqual(shown, [(0,), (4,), True, None, True])
        shown = [is_open_by(plan, 0, (1, 2)), is_open_by(plan, 0, (1, 0)), order_for(plan, 0, "known"),
                 order_for(plan, 3, 1)]
        self.assertEqual(shown, [True, False, None, None])

    def test_new_lots(self):
        early = ((3, 2), self.calls[:1] + ((("ask", BOTH), 1, 5),))
        shown = [is_open_by(early, 1, (0, 1)), is_open_by(early, 1, (0, 0)), waits_for(early, 1),
                 waits_for(self.plan, 3)]
        self.assertEqual(shown, [True, False, [], [(1,), (2,)]])
        shown = [new_lots(self.plan), can_be_new(self.plan, (1, 2)), gone_on(self.plan, (0,)),
                 gone_on(self.plan, (0, 1))]
        self.assertEqual(shown, [[(0, 1), (0, 2)], False, ((0, 3), (1, 2, 4)), ((0, 1, 2, 3, 4), ())])


class TestStage10(unittest.TestCase):
    late = ((3, 2), CALLS[:3] + ((("ask", BOTH), 5, 9, "open"),))

    def test_slack(self):
        shown = [slack(HISTORY), slack(self.late), widened(self.late, 1)[1][3], slack_paper(HISTORY),
                 slack_paper(self.late)]
        self.assertEqual(shown, [0, 1, (('ask', (1, 1)), 4, 10, 'open'), None, ('stuck', (0, 1, 3))])

    def test_left_out(self):
        nothing = ((2, 1), ((("ask", (0,)), 0, 1, "open"),))
        shown = [slack(nothing), slack_paper(nothing), idle_calls(HISTORY),
                 without(HISTORY, (2, 3)) == ((3, 2), CALLS[:2])]
        self.assertEqual(shown, [None, ('stuck', (0,)), (2, 3), True])
        turning = ((1, 1), (0, 1))
        shown = [[call[0][1] for call in turned(HISTORY, turning)[1]], turned_back((3, 2), turning),
                 is_turning((3, 2), ((1, 1), (2, 2)))]
        self.assertEqual(shown, [[(1, 1), (1, 2), (0, 1), (1, 2)], ((1, 2), (0, 1)), False])
        pair = beside(((3, 1), ((("tell", (2,), 1), 4, 7, "new"),)), HISTORY)
        self.assertEqual([pair[0], pair[1][0][0], pair[1][1]],
                         [(3, 3), ('tell', (2, 0, 0), 1), (('tell', (0, 1, 0), 1), 0, 3, 'new')])


class TestStage11(unittest.TestCase):
    def test_watch(self):
        watch, row = Watch((2, 1)), ("tell", (1,), 1)
        shown = [watch.begin(row), watch.begin(("ask", (1,))), watch.known_now((1,)), watch.finish(1, 1),
                 watch.known_now((1,)), watch.under_way()]
        self.assertEqual(shown, [0, 1, 'either', None, 'given', (0,)])
        shown = [watch.events(), watch.still_fits(), watch.begin(("ask", (1,))), watch.finish(2, "open"),
                 watch.still_fits(), watch.wrong_since()]
        self.assertEqual(shown, [3, True, 2, None, False, 4])
        twin = watch.twin()
        shown = [twin == watch, twin.lose(0), twin == watch, twin.history() == watch.history(), watch.history()[1][2]]
        self.assertEqual(shown, [True, None, False, True, (('ask', (1,)), 3, 4, 'open')])

    def test_desk(self):
        desk = Desk((2, 1))
        shown = [desk.execute(line) for line in ["begin tell 1 = 1", "begin ask 1", "known 1", "finish 1 open", "way",
                                                 "fits", "wrong", "known 0"]]
        self.assertEqual(shown, [['0'], ['1'], ['either'], ['done'], ['0'], ['yes'], ['never'], ['given']])


class TestPackage(unittest.TestCase):
    def test_the_package_is_one_folder_whose_own_file_is_empty(self):
        self.assertEqual(pathlib.Path(freshtold.__file__).read_bytes(), b"")


if __name__ == "__main__":
    unittest.main()
