"""[29] and [9]: fillings beside all lots of lost tells and all answers, each looked at by all weavings."""

import random
import unittest
from itertools import product

from freshtold import fillings
from freshtold.errors import TooMany
from freshtold.peeling import fits
from tests import history_oracle as told
from tests.cases import ToldCase
from tests.histories import EMPTY, FITTING, LATE, NOTHING, fitting_history, large_history, some_sum
from tests.untold import CALLS, HISTORY, ONE, STRIFE, asks, holed_histories, many_lost
from tests.values import near, odd_values

SIGNATURES = {"filled": ["history", "taken", "answers"], "is_filling": ["history", "thing"],
              "fillings": ["history"], "heard": ["history", "index"]}
SMALL_HOUSES = [(2, 0), (2, 1), (2, 2), (3, 0), (3, 1), (3, 2), (5, 1)]


class FillingCase(ToldCase):
    def check_fillings(self, history):
        """The fillings, and what is heard in them, are those that all lots and all answers tell."""
        wanted = told.fillings(history)
        self.check(wanted, fillings.fillings, history)
        for filling in wanted:
            self.check(True, fillings.is_filling, history, filling)
        for place, index in enumerate(told.unanswered(history, "ask", False)):
            seen = {answers[place] for _, answers in wanted}
            self.check([answer for answer in [*range(history[0][0]), "open"] if answer in seen],
                       fillings.heard, history, index)
        return wanted

    def check_things(self, history, things):
        """Values are fillings just if the words of the point say so; how many are."""
        many = 0
        for thing in things:
            wanted = told.a_filling(history, thing)
            many += wanted
            self.assertIs(fillings.is_filling(history, thing), wanted, (history, repr(thing)[:300]))
        return many

    def check_too_many(self, calls):
        for function, *arguments in calls:
            self.assertEqual(repr(self.caught(TooMany, function, *arguments).most), "6")


class TestInterface(ToldCase):
    def test_all_are_defined_in_the_file(self):
        self.check_interface(fillings, SIGNATURES)


class TestFilled(FillingCase):
    def test_told_whole(self):
        self.check(((2, 1), ((("tell", ONE, 1), 0, None, "new"), (("ask", ONE), 1, 2, 1), (("ask", ONE), 4, 5, 1))),
                   fillings.filled, HISTORY, (0,), (1, 1))
        self.check(((2, 1), ((("ask", ONE), 1, 2, "open"), (("ask", ONE), 4, 5, 0))),
                   fillings.filled, HISTORY, (), ("open", 0))
        self.check(((3, 1), ((("ask", ONE), 1, 2, 2), (("tell", ONE, 2), 0, None, "new"),
                             (("tell", (2,), 1), 3, 4, "known"))), fillings.filled, STRIFE, (2,), (2,))
        self.check(((3, 1), ((("tell", ONE, 1), 0, None, "new"), (("ask", ONE), 1, 2, "open"),
                             (("tell", ONE, 2), 0, None, "new"), (("tell", (2,), 1), 3, 4, "known"))),
                   fillings.filled, STRIFE, (0, 2), ("open",))

    def test_whole_histories_stay(self):
        for history in [FITTING, LATE, NOTHING] + EMPTY:
            self.check(history, fillings.filled, history, (), ())

    def test_any_lot_and_any_answers(self):
        chosen, many = random.Random(29), 0
        for history in holed_histories(chosen, 25, 5):
            answers = [*range(history[0][0]), "open"]
            for taken in told.lost_lots(history)[:8]:
                picked = tuple(chosen.choice(answers) for _ in told.unanswered(history, "ask", False))
                wanted = told.filled(history, taken, picked)
                self.assertTrue(all(call[3] is not None for call in wanted[1]))
                self.check(wanted, fillings.filled, history, taken, picked)
                many += picked != ()
        self.assertGreater(many, 30)

    def test_of_more_than_six_lost_tells(self):
        history = many_lost(8, asks(2, None) + asks(1, 0))
        found = self.call(fillings.filled, history, (1, 7), (0,))
        self.assertEqual(found, ((2, 8), (history[1][1][:3] + ("new",), history[1][7][:3] + ("new",),
                                          history[1][10][:3] + (0,))))


class TestFillings(FillingCase):
    def test_told_whole(self):
        self.check([((), ("open", "open")), ((0,), (1, 1)), ((0,), ("open", 1)), ((0,), ("open", "open"))],
                   fillings.fillings, HISTORY)
        self.check([1, "open"], fillings.heard, HISTORY, 1)
        self.check([1, "open"], fillings.heard, HISTORY, 2)
        seen = ((2, 1), CALLS[:2] + ((("ask", ONE), 4, 5, 1),))
        self.check([((0,), (1,)), ((0,), ("open",))], fillings.fillings, seen)
        self.check([1, "open"], fillings.heard, seen, 1)

    def test_whole_histories(self):
        for history in [FITTING] + EMPTY:
            self.check([((), ())], fillings.fillings, history)
        for history in (LATE, NOTHING):
            self.check([], fillings.fillings, history)

    def test_tells_that_gainsay_one_another(self):
        # The last tell is known: so the second lost one took effect, and not the first.
        self.check([((2,), (2,)), ((2,), ("open",))], fillings.fillings, STRIFE)
        self.check([2, "open"], fillings.heard, STRIFE, 1)
        either = (STRIFE[0], STRIFE[1][:4])
        self.check([((), ("open",)), ((0,), (1,)), ((0,), ("open",)), ((2,), (2,)), ((2,), ("open",))],
                   fillings.fillings, either)
        self.check([1, 2, "open"], fillings.heard, either, 1)

    def test_no_filling(self):
        odd = ((2, 1), (CALLS[0], (("ask", ONE), 1, 2, 0), (("ask", (0,)), 0, 0, None)))
        self.check([], fillings.fillings, odd)
        self.check([], fillings.heard, odd, 2)

    def test_the_empty_sum_is_never_open(self):
        history = ((5, 2), ((("ask", (0, 0)), 0, 0, None), (("tell", (0, 0), 0), 0, None, None)))
        self.check([((), (0,))], fillings.fillings, history)
        self.check([0], fillings.heard, history, 0)

    def test_beside_all_lots_and_answers(self):
        chosen, sizes = random.Random(290), []
        for history in holed_histories(chosen, 160, 5, houses=SMALL_HOUSES):
            if len(told.unanswered(history, "ask", False)) < 4:
                sizes.append(len(self.check_fillings(history)))
        self.assertGreater(sizes.count(0), 20)
        self.assertGreater(sizes.count(1), 10)
        self.assertGreater(len([size for size in sizes if size > 2]), 20)

    def test_up_to_six_that_are_untold(self):
        chosen = random.Random(291)
        for lost in range(7):
            history = fitting_history(chosen, (2, 2), 3, 6)
            more = tuple((("tell", some_sum(chosen, (2, 2)), 1), chosen.randrange(6), None, None) for _ in range(lost))
            for heard in (0, 6 - lost if lost > 3 else 1):
                last = tuple((("ask", some_sum(chosen, (2, 2))), at, at + 4, None) for at in range(heard))
                self.check_fillings(((2, 2), history[1] + more + last))

    def test_most_fillings(self):
        for lost in range(7):
            history = many_lost(lost, asks(6 - lost, None))
            self.check([(lot, ()) for lot in told.lost_lots(history)], fillings.fillings, history)
        history = ((2, 6), tuple((("tell", one, 1), 9, 9, "new") for one in
                                 [tuple(int(at == place) for at in range(6)) for place in range(6)])
                   + tuple((("ask", tuple(int(at == place) for at in range(6))), 9, 9, None) for place in range(6)))
        self.check([((), answers) for answers in product([1, "open"], repeat=6)], fillings.fillings, history)

    def test_many_calls(self):
        chosen, many = random.Random(292), 0
        for house in [(7, 8), (2, 5), (3, 3)]:
            history = large_history(chosen, house)
            holes = (house, tuple(call[:3] + (None,) if call[0][0] == "ask" else call for call in history[1]))
            heard_so = {index: history[1][index][3] for index in told.unanswered(holes, "ask", False)}
            for index in heard_so:
                # Other unheard asks need not be looked at: so it does not matter that the others are heard here.
                calls = [history[1][:index] + (history[1][index][:3] + (answer,),) + history[1][index + 1:]
                         for answer in (heard_so[index], "open")]
                self.check([calls[at][index][3] for at in (0, 1) if fits((house, calls[at]))],
                           fillings.heard, holes, index)
                many += 1
        self.assertGreater(many, 10)


class TestIsFilling(FillingCase):
    def test_told_whole(self):
        for thing, wanted in [(((0,), (1, "open")), False), (((0,), (0, 1)), False), (((0,), ["open", 1]), False),
                              (((0,), ("open", 1)), True), (((), ("open", "open")), True), (((), ()), False),
                              (([0], ("open", 1)), False), (((False,), ("open", 1)), False),
                              (((0,), ("open", True)), False), (((0,), ("open", 1, 1)), False),
                              (((0,), ("open",)), False), (((1,), ("open", 1)), False), (((0, 0), (1, 1)), False),
                              (((0,), (None, 1)), False), (((0,), ("open", 1), ()), False), ((0,), False)]:
            self.check(wanted, fillings.is_filling, HISTORY, thing)
        # A lost ask is no lost tell.
        for thing, wanted in [(((2,), (2,)), True), (((0, 2), (2,)), False), (((2, 3), (2,)), False),
                              (((3,), (2,)), False)]:
            self.check(wanted, fillings.is_filling, STRIFE, thing)

    def test_one_part_otherwise(self):
        chosen = random.Random(293)
        histories = [HISTORY, STRIFE, FITTING] + holed_histories(chosen, 4, 4, houses=SMALL_HOUSES)
        for history in histories:
            found = told.fillings(history) if len(told.unanswered(history, "ask", False)) < 4 else []
            for filling in chosen.sample(found, min(2, len(found))):
                self.assertGreater(self.check_things(history, near(filling)), 0)

    def test_any_value(self):
        for history in [HISTORY, STRIFE, FITTING, LATE, ((2, 0), ())]:
            self.check_things(history, odd_values())
            for part in odd_values():
                self.check_things(history, [(part, ()), ((), part), (part, part), ((part,), (part,)), [(), part],
                                            ((0,), (part, 1)), ((0,), ("open", part)), ((part,), ("open", 1))])

    def test_of_more_than_six_lost_tells(self):
        history = many_lost(8, asks(1, 0))
        lots = told.lots(tuple(range(8)))
        for lot in random.Random(294).sample(lots, 20) + [(), tuple(range(8))]:
            self.check(True, fillings.is_filling, history, (lot, ("open",)))
            self.check(len(lot) == 8, fillings.is_filling, history, (lot, (0,)))
            self.check(False, fillings.is_filling, history, (lot, (1,)))
            self.check(False, fillings.is_filling, history, (lot + (8,), ("open",)))

    def test_whole_histories(self):
        for history, wanted in [(FITTING, True), (LATE, False), (NOTHING, False)]:
            self.check(wanted, fillings.is_filling, history, ((), ()))
            self.check(False, fillings.is_filling, history, ((0,), ()))


class TestTooMany(FillingCase):
    def test_seven_lost_tells(self):
        history = many_lost(7, asks(1, 3))
        self.check_too_many([(fillings.fillings, history), (fillings.heard, history, 7)])
        self.check_too_many([(fillings.fillings, many_lost(7)), (fillings.fillings, many_lost(8, asks(3, None)))])
        # Also if there is no filling.
        unfit = (history[0], history[1] + ((("ask", (0,) * 8), 0, 0, "open"),))
        self.check_too_many([(fillings.fillings, unfit), (fillings.heard, unfit, 7)])

    def test_seven_untold_together(self):
        for lost in range(7):
            history = many_lost(lost, asks(7 - lost, 3))
            self.check_too_many([(fillings.fillings, history)])
            self.assertIn("open", self.call(fillings.heard, history, lost))
        self.check_too_many([(fillings.fillings, many_lost(0, asks(24, 0)))])

    def test_just_six(self):
        for lost in (0, 3, 6):
            self.assertGreater(len(self.call(fillings.fillings, many_lost(lost, asks(6 - lost, 3)))), 0)

    def test_lost_asks_do_not_count(self):
        history = many_lost(5, asks(17, None) + asks(1, 3))
        self.assertEqual(len(self.call(fillings.fillings, history)), 32)
        self.check(["open"], fillings.heard, history, 22)
        self.check([((), ())], fillings.fillings, many_lost(0, asks(24, None)))

    def test_heard_has_no_bound_for_unheard_asks(self):
        self.check([0, "open"], fillings.heard, many_lost(6, ((("tell", (0,) * 6 + (1, 0), 0), 0, 9, "new"),
                   (("tell", (0,) * 6 + (1, 1), 0), 0, 9, "new"), (("ask", (1,) * 8), 0, 3, None)) + asks(15, 3)), 8)


if __name__ == "__main__":
    unittest.main()
