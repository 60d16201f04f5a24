"""[1] and [5] to [10]: through the whole program, from a plan's text to its run, its weavings, and a Watch over it."""

import random
import unittest

from freshtold.alike import same_weavings
from freshtold.books import is_sound
from freshtold.calls import ahead_of, is_ahead, new_calls
from freshtold.claims import hold_of, holds_always, is_hold, surely_ahead, weaving_against
from freshtold.conditions import can_all_hold, conditions
from freshtold.desk import Desk
from freshtold.fillings import fillings, heard, is_filling
from freshtold.forms import is_history, is_plan, is_whole
from freshtold.knownahead import is_known_paper, known_ahead, known_paper
from freshtold.leastlots import earliest_place, least_weaving, weavings_many
from freshtold.leftout import beside, idle_calls, turned, turned_back, without
from freshtold.losttells import can_take, is_loss_paper, loss_paper, lots_taken, must_take
from freshtold.misfits import is_misfit, misfit
from freshtold.moments import given_from, known_at, open_until, sure_at
from freshtold.newlots import can_be_new, new_lots, order_with, waits_for
from freshtold.peeling import fits, weaving_of
from freshtold.reader import read_history, read_plan
from freshtold.reasons import new_rows, reason_of
from freshtold.slack import slack, slack_paper, widened
from freshtold.sureness import can_answer, known_by, open_by, order_for, rank_of, sure_answer
from freshtold.texts import show_history, show_plan
from freshtold.watch import Watch
from freshtold.weavings import is_order, is_weaving, run_by, store_at
from tests.plans import some_plans

TEXT = """
house 3 2   # two unknowns, modulo 3
tell 1 0 = 1 at 0 3
tell 1 1 = 2 at 1 4   # one hand
 ask 0 1     at 2 6
 ask 1 1     at 0 9   # another one
"""
FAR = 10 ** 6


def events_of(history):
    """The events of the calls of a history, (moment, is_end, index), in an order in which a Watch can hear them.

    What begins at a moment goes ahead of what ends at it: so just the same calls are ahead of one another.
    """
    begins = [(begin, False, index) for index, (_, begin, _, _) in enumerate(history[1])]
    return sorted(begins + [(end, True, index) for index, (_, _, end, _) in enumerate(history[1])])


def word(answer):
    return "-" if answer is None else str(answer)


def line_of(deed):
    factors = " ".join([deed[0], *map(str, deed[1])])
    return f"begin {factors} = {deed[2]}" if deed[0] == "tell" else f"begin {factors}"


class TestTold(unittest.TestCase):
    """The plan of the text, told step by step."""

    def test_a_plan_its_runs_and_a_watch(self):
        plan = read_plan(TEXT)
        self.assertEqual(read_plan(show_plan(plan)), plan)
        self.assertEqual([rank_of(plan), new_lots(plan), can_answer(plan, 2), can_answer(plan, 3)],
                         [2, [(0, 1)], [1, "open"], [2, "open"]])
        run = run_by(plan, (0, 3, 1, 2))
        self.assertEqual(show_history(run).split("\n")[1:], [
            "tell 1 0 = 1 at 0 3 new", "tell 1 1 = 2 at 1 4 new", "ask 0 1 at 2 6 1", "ask 1 1 at 0 9 open"])
        self.assertEqual([misfit(run), weavings_many(run), weaving_of(run), slack(run)], [None, 3, (0, 3, 1, 2), 0])
        self.assertEqual([given_from(run, (0, 1)), open_until(run, (0, 1))], [("from", 5), ("until", 0)])
        watch = Watch((3, 2))
        self.assertEqual([watch.begin(call[0]) for call in run[1]], [0, 1, 2, 3])
        for index in (0, 1, 2, 3):
            watch.finish(index, run[1][index][3])
        self.assertEqual([watch.wrong_since(), watch.known_now((0, 1)), weavings_many(watch.history())],
                         [None, "given", 3])


class WholeCase(unittest.TestCase):
    def check_run(self, plan, run, order):
        """A run of a plan fits; what is told of it goes with what is told of the plan."""
        self.assertTrue(is_history(run) and is_whole(run) and is_sound(run) and fits(run))
        self.assertEqual(read_history(show_history(run) + "\n# that is all"), run)
        for weaving in (order, weaving_of(run), least_weaving(run)):
            self.assertTrue(is_weaving(run, weaving))
            self.assertEqual(sorted(store_at(run, weaving, len(weaving))), sorted(new_rows(run)))
        new = new_calls(run)
        self.assertEqual(len(new), rank_of(plan))
        self.assertIn(new, new_lots(plan))
        self.assertEqual(new_calls(run_by(plan, order_with(plan, new))), new)
        for index, call in enumerate(run[1]):
            self.check_answer(plan, run, index, call[3])
        self.assertEqual([slack(run), slack_paper(run), misfit(widened(run, 3))], [0, None, None])

    def check_answer(self, plan, run, index, answer):
        """An answer is one of those that can be had; if it is sure, it is had; papers of the plan hold of the run."""
        self.assertIn(answer, can_answer(plan, index))
        self.assertIn(sure_answer(plan, index), (None, answer))
        self.assertTrue(is_order(plan, order_for(plan, index, answer)))
        one = run[1][index][0][1]
        kind, lots = known_ahead(run, index, one), waits_for(plan, index)
        if known_by(plan, index) is not None:
            self.assertEqual([kind, lots], ["given", [()]])
        if open_by(plan, index) is not None:
            self.assertEqual([kind, lots], ["open", []])
        paper = known_paper(run, index, one)
        self.assertEqual(paper is None, kind == "either")
        self.assertTrue(paper is None or is_known_paper(run, index, one, paper))
        self.assertEqual(kind == "given", answer not in ("new", "open"))

    def check_claims(self, run):
        """All conditions hold in all weavings; what holds has a hold, and all else a weaving against it."""
        claims, ahead = conditions(run), surely_ahead(run)
        self.assertTrue(can_all_hold(len(run[1]), claims))
        for claim in claims:
            self.assertTrue(holds_always(run, claim))
            self.assertTrue(is_hold(run, claim, hold_of(run, claim)))
        for one in range(len(run[1])):
            self.assertTrue(set(ahead_of(run, one)) <= {other for other in range(len(ahead)) if one in ahead[other]})
            self.assertEqual(earliest_place(run, one), len([lot for lot in ahead if one in lot]))
            for other in range(len(run[1])):
                if one != other and other not in ahead[one]:
                    self.assertTrue(is_weaving(run, weaving_against(run, (one, (other,)))))

    def check_watch(self, run):
        """A Watch, and a Desk, that hear the calls of a run as they begin and end tell what the run does."""
        watch, desk, indexes = Watch(run[0]), Desk(run[0]), {}
        for moment, is_end, index in events_of(run):
            deed, answer = run[1][index][0], run[1][index][3]
            if is_end:
                watch.finish(indexes[index], answer)
                self.assertEqual(desk.execute(f"finish {indexes[index]} {word(answer)}"), ["done"])
            else:
                indexes[index] = watch.begin(deed)
                self.assertEqual(desk.execute(line_of(deed)), [str(indexes[index])])
            self.assertIs(watch.still_fits(), True)
        self.assertTrue(watch == desk.watch())
        self.assertEqual(desk.execute("history"), show_history(watch.history()).split("\n"))
        # The same calls, by their begins.
        kept = (run[0], tuple(run[1][index] for index in sorted(indexes, key=indexes.get)))
        heard_of = watch.history()
        for one in range(len(run[1])):
            for other in range(len(run[1])):
                self.assertEqual(is_ahead(kept, one, other), is_ahead(heard_of, one, other))
        self.assertTrue(same_weavings(kept, heard_of))
        self.assertEqual([watch.wrong_since(), watch.under_way()], [None, ()])
        for one in [(0,) * run[0][1], (1,) * run[0][1], (1, 0, 1)[:run[0][1]]]:
            if len(one) == run[0][1]:
                given = reason_of(run, one) is not None
                self.assertEqual(watch.known_now(one), "given" if given else "open")
                self.assertEqual(known_at(run, FAR, one), "given" if given else "open")

    def check_untold(self, run):
        """A new tell that is lost must have been taken, or what it changed is not seen; what was heard can be heard."""
        for index, (deed, begin, end, answer) in enumerate(run[1]):
            if deed[0] == "ask":
                holed = (run[0], run[1][:index] + ((deed, begin, end, None),) + run[1][index + 1:])
                self.assertIn(answer, heard(holed, index))
                self.assertTrue(is_filling(holed, ((), (answer,))))
                self.assertEqual([filling[1][0] for filling in fillings(holed)], heard(holed, index))
            else:
                holed = (run[0], run[1][:index] + ((deed, begin, None, None),) + run[1][index + 1:])
                taken = (index,) if answer == "new" else ()
                self.assertIn(taken, lots_taken(holed))
                self.assertTrue(set(must_take(holed)) <= set(taken) <= set(can_take(holed)))
        self.assertEqual(fillings(run), [((), ())])

    def check_changed(self, chosen, run):
        """If one answer is another one, the history fits, or a paper tells why not; other papers go with it."""
        index = chosen.randrange(len(run[1]))
        deed, begin, end, _ = run[1][index]
        answer = chosen.choice(["new", "known", "clash"] if deed[0] == "tell" else ["open", *range(run[0][0])])
        bent = (run[0], run[1][:index] + ((deed, begin, end, answer),) + run[1][index + 1:])
        paper = misfit(bent)
        self.assertEqual(fits(bent), paper is None)
        if paper is not None:
            self.assertTrue(is_misfit(bent, paper))
            self.assertTrue(is_loss_paper(bent, {(): paper}))
            self.assertEqual(repr(loss_paper(bent)), repr({(): paper}))
            self.assertTrue(slack(bent) != 0 and slack_paper(bent) is not None)
        return paper is not None

    def check_around(self, chosen, run):
        """Calls that are idle can be left out, sums be turned; and a run fits beside another one."""
        for index in idle_calls(run):
            self.assertTrue(fits(without(run, (index,))))
        many = run[0][1]
        turning = tuple((0,) * at + (1,) + tuple(chosen.randrange(run[0][0]) for _ in range(many - at - 1))
                        for at in range(many))
        self.assertTrue(same_weavings(run, turned(run, turning)))
        self.assertEqual(turned(turned(run, turning), turned_back(run[0], turning)), run)
        self.assertEqual(misfit(beside(run, turned(run, turning))), None)

    def check_moments(self, run):
        """Far ahead nothing is sure, far behind all; in between what was over is."""
        self.assertEqual([sure_at(run, -FAR), sure_at(run, FAR)], [(), new_calls(run)])
        for index in new_calls(run):
            _, begin, end, _ = run[1][index]
            self.assertNotIn(index, sure_at(run, begin - 1))
            self.assertIn(index, sure_at(run, end + 1))


class TestWhole(WholeCase):
    def test_from_texts_to_watches(self):
        chosen, many = random.Random(1), 0
        houses = [(2, 0), (2, 1), (2, 2), (2, 3), (3, 1), (3, 2), (3, 3), (5, 2), (7, 1), (7, 2)]
        for plan in some_plans(chosen, 90, 7, houses=houses):
            self.assertTrue(is_plan(plan))
            self.assertEqual(read_plan(show_plan(plan).replace("\n", " # one more\n\n")), plan)
            order = tuple(sorted(range(len(plan[1])), key=lambda index: (plan[1][index][1], chosen.random())))
            run = run_by(plan, order)
            self.check_run(plan, run, order)
            self.check_claims(run)
            self.check_watch(run)
            self.check_untold(run)
            self.check_around(chosen, run)
            self.check_moments(run)
            many += bool(run[1]) and self.check_changed(chosen, run)
        self.assertGreater(many, 20)

    def test_each_lot_that_can_be_new(self):
        chosen = random.Random(2)
        for plan in some_plans(chosen, 40, 6):
            for lot in new_lots(plan):
                self.assertTrue(can_be_new(plan, lot))
                order = order_with(plan, lot)
                run = run_by(plan, order)
                self.assertEqual(new_calls(run), lot)
                self.check_run(plan, run, order)

    def test_the_same_whatever_was_called_before(self):
        chosen = random.Random(3)
        plans = some_plans(chosen, 12, 6)
        first = [self.all_told(plan) for plan in plans]
        again = [self.all_told(plan) for plan in plans[::-1]][::-1]
        self.assertEqual(first, again)

    def all_told(self, plan):
        run = run_by(plan, gone_by_begins(plan))
        sums = [(0,) * plan[0][1], (1,) * plan[0][1]]
        found = [rank_of(plan), new_lots(plan), weaving_of(run), conditions(run), slack(run), idle_calls(run),
                 fillings(run), loss_paper(run), surely_ahead(run), [given_from(run, one) for one in sums]]
        found += [(waits_for(plan, index), known_by(plan, index), open_by(plan, index), can_answer(plan, index))
                  for index in range(len(plan[1]))]
        return repr(found)


def gone_by_begins(plan):
    """The order of the calls by their begins."""
    return tuple(sorted(range(len(plan[1])), key=lambda index: plan[1][index][1]))


if __name__ == "__main__":
    unittest.main()
