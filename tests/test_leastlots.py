"""[24]: least lots, and weavings by their begins, beside all weavings of small histories."""

import random
import unittest
from math import factorial

from freshtold import leastlots
from freshtold.errors import NoFit, TooMany
from freshtold.misfits import misfit
from freshtold.reasons import leaners
from tests import history_oracle as told
from tests import oracle
from tests.cases import ToldCase
from tests.histories import (BOTH, CALLS, EMPTY, FITTING, LATE, NOTHING, ONE, OTHER, fitting_history, large_history,
                             some_histories, unfit_histories)

SIGNATURES = {"least_lots": ["history", "index"], "earliest_place": ["history", "index"],
              "weavings_many": ["history"], "weaving_from": ["history", "begin"], "least_weaving": ["history"],
              "greatest_weaving": ["history"]}
FUNCTIONS_OF_HISTORIES = (leastlots.least_weaving, leastlots.greatest_weaving, leastlots.weavings_many)
WRONG = ((3, 2), CALLS[:2] + ((("ask", OTHER), 2, 6, 0), CALLS[3]))
# Call 3 stands ahead of the last one of 0 and 1, and so ahead of the last one of 2, that leans on both, too.
OPEN = ((2, 2), ((("tell", ONE, 1), 0, 9, "new"), (("tell", OTHER, 1), 0, 9, "new"), (("ask", BOTH), 0, 9, 0),
                 (("ask", BOTH), 0, 9, "open")))


def in_blocks(sizes):
    """Asks in blocks: all calls of a block are ahead of all of the next one, those of one are free."""
    return ((2, 0), tuple((("ask", ()), at, at, 0) for at, size in enumerate(sizes) for _ in range(size)))


class LeastCase(ToldCase):
    def check_lots(self, history):
        """The least lots of which some member stands behind the call in all weavings; and the least place."""
        weavings, many = told.weavings(history), len(history[1])
        for index in range(many):
            behind = {frozenset(weaving[weaving.index(index) + 1:]) for weaving in weavings}
            others = tuple(other for other in range(many) if other != index)
            found = [lot for lot in told.lots(others) if lot and all(later & set(lot) for later in behind)]
            least = [lot for lot in found if not any(set(part) < set(lot) for part in found)]
            self.check(sorted(least), leastlots.least_lots, history, index)
            place = min(weaving.index(index) for weaving in weavings)
            self.check(place, leastlots.earliest_place, history, index)

    def check_weavings(self, history):
        weavings = told.weavings(history)
        self.check(len(weavings), leastlots.weavings_many, history)
        self.check(min(weavings), leastlots.least_weaving, history)
        self.check(max(weavings), leastlots.greatest_weaving, history)

    def check_begin(self, history, begin):
        found = [weaving for weaving in told.weavings(history) if weaving[:len(begin)] == begin]
        self.check(min(found, default=None), leastlots.weaving_from, history, begin)

    def check_no_fit(self, history):
        """Each function raises NoFit with what misfit returns, ahead of all else."""
        indexes = told.everything(history)
        calls = [(function, history) for function in FUNCTIONS_OF_HISTORIES]
        calls += [(leastlots.weaving_from, history, begin) for begin in ((), indexes[:1], indexes[::-1])]
        calls += [(function, history, index) for function in (leastlots.least_lots, leastlots.earliest_place)
                  for index in indexes]
        self.check_papers(NoFit, misfit(history), calls)


class TestInterface(ToldCase):
    def test_all_are_defined_in_the_file(self):
        self.check_interface(leastlots, SIGNATURES)


class TestLeastLots(LeastCase):
    def test_told_whole(self):
        for index, lots in enumerate([[(2,)], [(2,)], [], [(1,), (2,)]]):
            self.check(lots, leastlots.least_lots, FITTING, index)
        for index, lots in enumerate([[(2,)], [(2,)], [], [(0, 1), (2,)]]):
            self.check(lots, leastlots.least_lots, OPEN, index)
        for index, place in enumerate([0, 1, 3, 0]):
            self.check(place, leastlots.earliest_place, FITTING, index)
        for index, place in enumerate([0, 0, 3, 0]):
            self.check(place, leastlots.earliest_place, OPEN, index)
        self.check_lots(FITTING)
        self.check_lots(OPEN)

    def test_one_call(self):
        history = ((2, 0), ((("ask", ()), 0, 1, 0),))
        self.check([], leastlots.least_lots, history, 0)
        self.check(0, leastlots.earliest_place, history, 0)

    def test_by_chance(self):
        for history in some_histories(random.Random(24), fitting_history, 100, 6):
            self.check_lots(history)

    def test_many_weavings_and_few(self):
        for sizes in [(6,), (5,), (1, 1, 1, 1, 1, 1), (3, 3), (2, 2, 2), (1, 4, 1), (1, 2, 1, 2)]:
            self.check_lots(in_blocks(sizes))

    def test_at_most_twelve_calls(self):
        for index in (0, 5, 11):
            self.check([], leastlots.least_lots, in_blocks((12,)), index)
        for index in (0, 3):
            self.check([(other,) for other in range(4, 12)], leastlots.least_lots, in_blocks((4, 8)), index)
        for history in (in_blocks((13,)), in_blocks((1,) * 13), in_blocks((1,) * 24)):
            for index in (0, 12):
                self.assertEqual(self.caught(TooMany, leastlots.least_lots, history, index).most, 12)

    def test_earliest_places_of_many_calls(self):
        for sizes in [(13,), (1,) * 24, (5, 9, 10), (24,)]:
            history, before = in_blocks(sizes), 0
            for at, size in enumerate(sizes):
                index = sum(sizes[:at])
                for other in (index, index + size - 1):
                    self.check(before, leastlots.earliest_place, history, other)
                before += size


class TestWeavings(LeastCase):
    def test_told_whole(self):
        self.check(3, leastlots.weavings_many, FITTING)
        self.check((0, 3, 1, 2), leastlots.least_weaving, FITTING)
        self.check((3, 1, 0, 2), leastlots.greatest_weaving, FITTING)
        for begin, weaving in [((), (0, 3, 1, 2)), ((3,), (3, 0, 1, 2)), ((3, 1), (3, 1, 0, 2)), ((1,), None),
                               ((0, 1), None), ((0, 3, 2), None), ((3, 1, 0), (3, 1, 0, 2)), ((2,), None),
                               ((3, 0, 1, 2), (3, 0, 1, 2)), ((3, 0, 2, 1), None), ((0, 2, 1, 3), None)]:
            self.check(weaving, leastlots.weaving_from, FITTING, begin)

    def test_no_calls(self):
        for history in EMPTY:
            self.check(1, leastlots.weavings_many, history)
            for function in (leastlots.least_weaving, leastlots.greatest_weaving):
                self.check((), function, history)
            self.check((), leastlots.weaving_from, history, ())

    def test_by_chance(self):
        for history in some_histories(random.Random(240), fitting_history, 150, 6):
            self.check_weavings(history)

    def test_each_begin(self):
        chosen = random.Random(241)
        for history in [FITTING, OPEN] + some_histories(chosen, fitting_history, 40, 5):
            weavings, indexes = told.weavings(history), told.everything(history)
            begins = {weaving[:at] for weaving in weavings[:24] + weavings[-24:] for at in range(len(indexes) + 1)}
            for _ in range(12):
                begins.add(tuple(chosen.sample(indexes, chosen.randrange(len(indexes) + 1))))
            for begin in sorted(begins):
                self.check_begin(history, begin)

    def test_a_begin_that_is_right_with_what_must_stand_ahead_of_it_left_out(self):
        # What is begun with is not barred by itself; but some call that is left must stand ahead of it.
        history = in_blocks((2, 2))
        for begin, weaving in [((0, 2), None), ((2,), None), ((1, 0), (1, 0, 2, 3)), ((1, 0, 3), (1, 0, 3, 2)),
                               ((1, 2), None), ((0, 1, 2, 3), (0, 1, 2, 3))]:
            self.check(weaving, leastlots.weaving_from, history, begin)

    def test_many_calls(self):
        chosen = random.Random(242)
        for house in [(7, 8), (2, 8)]:
            history = large_history(chosen, house)
            for function in (leastlots.least_weaving, leastlots.greatest_weaving):
                self.assertTrue(self.is_weaving_of_many(history, self.call(function, history)))
            begin = leastlots.greatest_weaving(history)[:5]
            weaving = self.call(leastlots.weaving_from, history, begin)
            self.assertTrue(self.is_weaving_of_many(history, weaving) and weaving[:5] == begin)
        self.check(tuple(range(24)), leastlots.least_weaving, in_blocks((5, 19)))
        self.check(tuple(range(5))[::-1] + tuple(range(5, 24))[::-1], leastlots.greatest_weaving, in_blocks((5, 19)))

    def is_weaving_of_many(self, history, order):
        """Whether this is an order in which all that a call of a large history leans on stands ahead of it."""
        if sorted(order) != list(range(24)):
            return False
        place = {index: at for at, index in enumerate(order)}
        if any(oracle.ahead(history, one, other) and place[other] < place[one] for one in place for other in place):
            return False
        return all(place[index] < place[other] for index in place for other in leaners(history, index))


class TestTooMany(LeastCase):
    def test_just_400_lots_and_more(self):
        # Blocks of 8, 7, 4, 1 and 1 free calls have 256 + 127 + 15 + 1 + 1 lots of first calls.
        many = factorial(8) * factorial(7) * factorial(4)
        self.check(many, leastlots.weavings_many, in_blocks((8, 7, 4, 1, 1)))
        self.check(many, leastlots.weavings_many, in_blocks((1, 8, 1, 7, 4)))
        self.check(many, leastlots.weavings_many, in_blocks((8, 7, 4, 1)))
        for sizes in [(8, 7, 4, 1, 1, 1), (1, 1, 8, 7, 4, 1), (9,), (24,), (8, 8), (12, 12), (4, 7, 8, 2)]:
            self.assertEqual(self.caught(TooMany, leastlots.weavings_many, in_blocks(sizes)).most, 400)

    def test_few_lots_of_many_calls(self):
        self.check(1, leastlots.weavings_many, in_blocks((1,) * 24))
        self.check(factorial(8), leastlots.weavings_many, in_blocks((8,)))
        self.check(6 ** 8, leastlots.weavings_many, in_blocks((3,) * 8))

    def test_lots_that_are_those_of_no_first_calls_do_not_count(self):
        # Each ask leans on its tell: so a pair has three lots of first calls, five pairs 3 ** 5, six 3 ** 6.
        for pairs, is_too_many in ((5, False), (6, True)):
            calls = []
            for at in range(pairs):
                one = (0,) * at + (1,) + (0,) * (pairs - at - 1)
                calls += [(("tell", one, 1), 0, 9, "new"), (("ask", one), 0, 9, 1)]
            history = ((2, pairs), tuple(calls))
            if is_too_many:
                self.assertEqual(self.caught(TooMany, leastlots.weavings_many, history).most, 400)
            else:
                self.check(factorial(10) // 2 ** 5, leastlots.weavings_many, history)

    def test_none_of_others(self):
        history = in_blocks((24,))
        self.check(tuple(range(24)), leastlots.least_weaving, history)
        self.check(tuple(range(24))[::-1], leastlots.greatest_weaving, history)
        self.check((9,) + tuple(range(9)) + tuple(range(10, 24)), leastlots.weaving_from, history, (9,))


class TestNoFit(LeastCase):
    def test_told_whole(self):
        for history in (LATE, NOTHING, WRONG, ((2, 0), ((("tell", (), 0), 0, 1, "new"),))):
            self.check_no_fit(history)

    def test_ahead_of_too_many(self):
        for sizes in [(13,), (24,), (9, 9)]:
            house, calls = in_blocks(sizes)
            self.check_no_fit((house, calls[:-1] + ((("ask", ()), 0, 9, "open"),)))
            self.check_no_fit((house, ((("ask", ()), 0, 9, 1),) + calls[1:]))

    def test_by_chance(self):
        histories = unfit_histories(random.Random(243), 50, 5)
        self.assertGreater(len(histories), 40)
        for history in histories:
            self.check_no_fit(history)


if __name__ == "__main__":
    unittest.main()
