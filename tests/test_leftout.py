"""[34]: calls left out, sums turned, histories beside one another; all told by the weavings of small histories."""

import random
import unittest
from itertools import product

from freshtold import leftout
from freshtold.claims import holds_always
from freshtold.errors import NoFit
from freshtold.misfits import misfit
from freshtold.peeling import fits, weaving_of
from freshtold.reasons import reasons
from tests import history_oracle as told
from tests import oracle
from tests.cases import ToldCase
from tests.histories import (CALLS, EMPTY, FITTING, HOUSES, LATE, NOTHING, OTHER, fitting_history, large_history,
                             mixed_histories, some_histories, sound_history, unfit_histories)
from tests.values import near, odd_values

SIGNATURES = {"without": ["history", "lot"], "idle_calls": ["history"], "is_turning": ["house", "thing"],
              "turned": ["history", "turning"], "turned_back": ["house", "turning"], "beside": ["one", "other"]}
WRONG = ((3, 2), CALLS[:2] + ((("ask", OTHER), 2, 6, 0), CALLS[3]))
TURNING = ((1, 1), (0, 1))


def some_fitting(chosen, count, most):
    """Histories that FIT, of stretches that part and such that do not."""
    found = some_histories(chosen, fitting_history, count, most)
    found += some_histories(chosen, fitting_history, count, most, 2)
    found += [history for history in some_histories(chosen, sound_history, count, most) if told.weavings(history)]
    return found


def drawn_out(chosen, history):
    """A history in which the stretches of the new calls are longer: it still has its weavings."""
    return (history[0], tuple((deed, begin - chosen.randrange(7), end and end + chosen.randrange(7), answer)
                              if answer == "new" else (deed, begin, end, answer)
                              for deed, begin, end, answer in history[1]))


def left_out(history, lot):
    return (history[0], tuple(call for index, call in enumerate(history[1]) if index not in lot))


def idle(history, index):
    """Whether a call is IDLE, by the words of the point."""
    for other in told.everything(history):
        if other != index and index in (told.reason(history, told.asked(history, other)) or {}):
            return False
    moved = {tuple(other - (other > index) for other in weaving if other != index)
             for weaving in told.weavings(history)}
    without = set(told.weavings(left_out(history, (index,))))
    assert moved <= without
    return moved == without


def a_turning(house, thing):
    """Whether any value is a TURNING: all combinations are tried."""
    if not oracle.a_tuple(thing, house[1]) or not all(oracle.a_sum(house, one) for one in thing):
        return False
    empty = (0,) * house[1]
    return all(row[0] != empty or not any(numbers)
               for numbers, row in oracle.all_made(house, [(one, 0) for one in thing]))


def turnings(house):
    """All TURNINGS of a house."""
    return [thing for thing in product(oracle.worlds(house), repeat=house[1]) if a_turning(house, thing)]


def some_turning(chosen, house):
    """A TURNING by chance: sums of a single unknown, added to one another again and again, change places."""
    prime, many = house
    sums = [tuple(int(at == place) * chosen.randrange(1, prime) for at in range(many)) for place in range(many)]
    for _ in range(3 * many if many > 1 else 0):
        one, other = chosen.sample(range(many), 2)
        sums[one] = oracle.row_of(house, [(sums[one], 0), (sums[other], 0)], [1, chosen.randrange(prime)])[0]
    return tuple(chosen.sample(sums, many))


def turned_sum(house, turning, one):
    return oracle.row_of(house, [(single, 0) for single in turning], one)[0]


class LeftCase(ToldCase):
    def check_turned(self, history, turning):
        """Sums are turned, all else stays; the reasons and the weavings are the same; and it can be led back."""
        calls = [((deed[0], turned_sum(history[0], turning, deed[1])) + deed[2:], begin, end, answer)
                 for deed, begin, end, answer in history[1]]
        wanted = (history[0], tuple(calls))
        self.check(wanted, leftout.turned, history, turning)
        if told.independent(history[0], told.rows(history)):
            self.assertEqual(reasons(wanted), reasons(history))
        self.assertEqual(told.weavings(wanted), told.weavings(history))
        back = self.call(leftout.turned_back, history[0], turning)
        self.assertTrue(a_turning(history[0], back))
        self.check(history, leftout.turned, wanted, back)
        self.check(turning, leftout.turned_back, history[0], back)

    def check_beside(self, one, other):
        """The history of both fits just if both do; a claim of one holds in it just if it does in that one alone."""
        left, right = (0,) * one[0][1], (0,) * other[0][1]
        calls = [((deed[0], deed[1] + right) + deed[2:], begin, end, answer) for deed, begin, end, answer in one[1]]
        calls += [((deed[0], left + deed[1]) + deed[2:], begin, end, answer) for deed, begin, end, answer in other[1]]
        wanted = ((one[0][0], one[0][1] + other[0][1]), tuple(calls))
        self.check(wanted, leftout.beside, one, other)
        both = bool(told.weavings(one) and told.weavings(other))
        self.assertEqual(bool(told.weavings(wanted)), both, (one, other))
        if both:
            many = len(one[1])
            for index, lot in told.claims(many):
                self.assertEqual(holds_always(wanted, (index, lot)), holds_always(one, (index, lot)))
            for index, lot in told.claims(len(other[1])):
                moved = (index + many, tuple(place + many for place in lot))
                self.assertEqual(holds_always(wanted, moved), holds_always(other, (index, lot)))
        return both

    def check_turnings(self, house, things):
        """Values are TURNINGS just if the words of the point say so; how many are."""
        many = 0
        for thing in things:
            wanted = a_turning(house, thing)
            many += wanted
            self.assertIs(leftout.is_turning(house, thing), wanted, (house, repr(thing)[:300]))
        return many


class TestInterface(ToldCase):
    def test_all_are_defined_in_the_file(self):
        self.check_interface(leftout, SIGNATURES)


class TestWithout(LeftCase):
    def test_told_whole(self):
        self.check(((3, 2), CALLS[:2]), leftout.without, FITTING, (2, 3))
        self.check(((3, 2), (CALLS[0], CALLS[2])), leftout.without, FITTING, (1, 3))
        self.check(FITTING, leftout.without, FITTING, ())
        self.check(((3, 2), ()), leftout.without, FITTING, (0, 1, 2, 3))

    def test_each_lot(self):
        for history in EMPTY + mixed_histories(random.Random(34), 15, 5):
            for lot in told.lots(told.everything(history)):
                self.check(left_out(history, lot), leftout.without, history, lot)


class TestIdle(LeftCase):
    def test_told_whole(self):
        self.check((2, 3), leftout.idle_calls, FITTING)
        for history in EMPTY:
            self.check((), leftout.idle_calls, history)
        self.check((0,), leftout.idle_calls, ((2, 1), ((("tell", (1,), 1), 0, 1, "new"),)))

    def test_what_is_between_two_others(self):
        first, last = ("tell", (1, 0), 1), ("tell", (0, 1), 1)
        for stretch, ask, stretch_of_last, wanted in [
                # What ends ahead of a call that ends ahead of a third one does so itself: the call in between is idle.
                ((0, 2), (("ask", (0, 0)), 3, 4, 0), (5, 9), (0, 1, 2)),
                ((0, 2), (("ask", (1, 0)), 3, 4, 1), (5, 9), (1, 2)),
                # Here the first one is ahead of the last one only because the ask heard of it.
                ((0, 4), (("ask", (1, 0)), 2, 2, 1), (3, 9), (2,)),
                ((0, 4), (("ask", (1, 0)), 2, 3, 1), (3, 9), (1, 2)),
                ((0, 4), (("tell", (1, 0), 1), 2, 2, "known"), (3, 9), (2,)),
                ((0, 4), (("tell", (1, 0), 0), 2, 2, "clash"), (3, 9), (2,)),
                ((0, 4), (("tell", (1, 0), 0), 2, 3, "clash"), (3, 9), (1, 2)),
                # It is open: so what it begins behind is ahead of the last one, whose row it would have heard.
                ((0, 2), (("ask", (0, 1)), 3, 4, "open"), (0, 9), (0,)),
                ((0, 3), (("ask", (0, 1)), 3, 4, "open"), (0, 9), (0, 1))]:
            calls = ((first, *stretch, "new"), ask, (last, *stretch_of_last, "new"))
            self.check(wanted, leftout.idle_calls, ((2, 2), calls))

    def test_beside_all_weavings(self):
        chosen, found = random.Random(340), []
        for history in [FITTING] + some_fitting(chosen, 120, 5):
            wanted = tuple(index for index in told.everything(history) if idle(history, index))
            self.check(wanted, leftout.idle_calls, history)
            found += [index in wanted for index in told.everything(history)]
        self.assertGreater(found.count(True), 200)
        self.assertGreater(found.count(False), 200)

    def test_what_binds_others_beside_all_weavings(self):
        # Stretches of new calls are long, those of all others short: so what these heard binds the new calls.
        chosen, kinds = random.Random(341), []
        for history in some_histories(chosen, fitting_history, 500, 6, 2, [(2, 2), (2, 3), (3, 2), (3, 3), (7, 2)]):
            history = drawn_out(chosen, history)
            wanted = tuple(index for index in told.everything(history) if idle(history, index))
            self.check(wanted, leftout.idle_calls, history)
            kinds += [history[1][index][3] for index in told.everything(history) if index not in wanted]
        for answer in ("known", "clash", "open"):
            self.assertGreater(kinds.count(answer), 2, answer)
        self.assertGreater(len([kind for kind in kinds if type(kind) is int]), 4)

    def test_many_calls(self):
        for house in [(2, 8), (3, 4)]:
            history = large_history(random.Random(342), house)
            found = self.call(leftout.idle_calls, history)
            self.assertTrue(oracle.a_lot(24, found) and found != ())
            for other, lot in enumerate(reasons(history)):
                self.assertFalse(set(lot or ()) & set(found) - {other})

    def test_no_fit(self):
        for history in [LATE, NOTHING, WRONG] + unfit_histories(random.Random(343), 40, 4):
            self.check_papers(NoFit, misfit(history), [(leftout.idle_calls, history)])


class TestTurnings(LeftCase):
    def test_told_whole(self):
        house = (3, 2)
        for thing, wanted in [(TURNING, True), (((1, 1), (2, 2)), False), (((1, 0), (0, 1)), True),
                              (((1, 1),), False),
                              (((1, 0), (0, 0)), False), ([(1, 0), (0, 1)], False), (((1, 0), [0, 1]), False),
                              (((True, 0), (0, 1)), False), (((1, 0), (0, 3)), False), (((1, 0), (0, 1, 0)), False),
                              (((1, 0), (0, 1), (1, 1)), False), ((), False), (None, False)]:
            self.check(wanted, leftout.is_turning, house, thing)
        self.check(((1, 2), (0, 1)), leftout.turned_back, house, TURNING)
        self.assertEqual([call[0][1] for call in leftout.turned(FITTING, TURNING)[1]],
                         [(1, 1), (1, 2), (0, 1), (1, 2)])
        self.check_turned(FITTING, TURNING)

    def test_no_unknowns(self):
        for prime in (2, 3, 5, 7):
            self.check(True, leftout.is_turning, (prime, 0), ())
            self.check((), leftout.turned_back, (prime, 0), ())
            self.check_turned(((prime, 0), ((("ask", ()), 0, 1, 0),)), ())

    def test_all_tuples_of_sums(self):
        for house, many in [((2, 1), 1), ((7, 1), 6), ((2, 2), 6), ((3, 2), 48), ((2, 3), 168), ((5, 2), 480)]:
            self.assertEqual(self.check_turnings(house, list(product(oracle.worlds(house), repeat=house[1]))), many)

    def test_any_value(self):
        for house, turning in [((2, 0), ()), ((2, 1), ((1,),)), ((3, 2), TURNING), ((7, 1), ((5,),)),
                               ((2, 3), ((1, 1, 0), (0, 1, 0), (1, 1, 1)))]:
            self.assertTrue(a_turning(house, turning))
            self.check_turnings(house, odd_values() + near(turning))
            for part in odd_values():
                self.check_turnings(house, [(part,), (part, (0, 1)), ((1, 0), part), [part], (part,) * house[1]])

    def test_back_and_forth(self):
        chosen = random.Random(344)
        for history in [FITTING, LATE, NOTHING] + mixed_histories(chosen, 25, 5):
            turning = some_turning(chosen, history[0])
            self.check(True, leftout.is_turning, history[0], turning)
            self.check_turned(history, turning)

    def test_all_turnings_of_small_houses(self):
        chosen = random.Random(345)
        for house in [(2, 1), (5, 1), (2, 2), (3, 2)]:
            history = fitting_history(chosen, house, 4, 6)
            for turning in turnings(house):
                self.check_turned(history, turning)

    def test_eight_unknowns(self):
        chosen = random.Random(346)
        for prime in (2, 7):
            history, turning = large_history(chosen, (prime, 8)), some_turning(chosen, (prime, 8))
            found = self.call(leftout.turned, history, turning)
            self.assertEqual(reasons(found), reasons(history))
            self.assertEqual(weaving_of(found), weaving_of(history))
            self.check(history, leftout.turned, found, self.call(leftout.turned_back, (prime, 8), turning))


class TestBeside(LeftCase):
    def test_told_whole(self):
        pair = self.call(leftout.beside, ((3, 1), ((("tell", (2,), 1), 4, 7, "new"),)), FITTING)
        self.assertEqual([pair[0], pair[1][0][0], pair[1][1], len(pair[1])],
                         [(3, 3), ("tell", (2, 0, 0), 1), (("tell", (0, 1, 0), 1), 0, 3, "new"), 5])
        for history in [FITTING, LATE]:
            self.check(history, leftout.beside, history, ((3, 0), ()))
            self.check(history, leftout.beside, ((3, 0), ()), history)
            self.check(False, lambda one=history: fits(leftout.beside(LATE, one)))
            self.check(False, lambda one=history: fits(leftout.beside(one, LATE)))

    def test_two_histories(self):
        chosen, found = random.Random(347), []
        histories = [history for history in mixed_histories(chosen, 60, 3) if len(history[1]) < 4]
        for prime in (2, 3, 5, 7):
            own = [history for history in histories if history[0][0] == prime]
            for _ in range(40):
                found.append(self.check_beside(chosen.choice(own), chosen.choice(own)))
        for _ in range(40):
            house, other = chosen.choice(HOUSES), chosen.choice(HOUSES)
            pair = [fitting_history(chosen, (house[0], many), size, 4) for many, size in ((house[1], 3), (other[1], 3))]
            found.append(self.check_beside(*pair))
        self.assertGreater(found.count(True), 50)
        self.assertGreater(found.count(False), 30)


if __name__ == "__main__":
    unittest.main()
