"""[35]: a watch beside one that is led by the words of the point; what it tells is told by all lots and weavings."""

import copy
import inspect
import random
import unittest

from freshtold import watch
from freshtold.desk import Desk
from freshtold.errors import NoAnswer, NoCall, NoFit, TooMany, Wrong
from freshtold.forms import is_history
from freshtold.losttells import fits_somehow, loss_paper
from freshtold.watch import Watch
from tests import oracle
from tests.cases import kept_in
from tests.histories import some_sum
from tests.values import near, odd_values
from tests.watch_oracle import Led, an_answer

SIGNATURES = {"__init__": ["house"], "begin": ["deed"], "finish": ["index", "answer"], "lose": ["index"],
              "history": [], "under_way": [], "events": [], "still_fits": [], "wrong_since": [], "known_now": ["asked"],
              "twin": [], "__eq__": ["other"]}
HOUSES = [(2, 0), (2, 1), (2, 2), (3, 1), (3, 2), (5, 1)]
TELL, ASK = ("tell", (1,), 1), ("ask", (1,))


def some_event(chosen, led, most, bend):
    """An event by chance; the answers are often those that the tells that are over can have led to."""
    under = led.under_way()
    if len(led.calls) < most and (not under or chosen.randrange(2)):
        one = some_sum(chosen, led.house)
        is_ask = chosen.randrange(2) or led.open_tells() == 6
        return ("begin", ("ask", one) if is_ask else ("tell", one, sum(one) % led.house[0]))
    if not under:
        return None
    index = chosen.choice(under)
    if chosen.randrange(6) == 0:
        return ("lose", index)
    deed = led.calls[index][0]
    if deed[0] == "tell":
        return ("finish", index, chosen.choice(["new", "new", "known", "clash" if bend else "known"]))
    given = sum(deed[1]) % led.house[0]
    return ("finish", index, chosen.choice([given, "open", None] + ([chosen.randrange(led.house[0])] if bend else [])))


def led_on(house, events):
    """A watch that has heard some events."""
    found = Watch(house)
    for name, *arguments in events:
        getattr(found, name)(*arguments)
    return found


def state(one):
    return repr((one.history(), one.under_way(), one.events()))


class WatchCase(unittest.TestCase):
    def check_state(self, one, led, sums):
        """A watch tells what the led one does."""
        history = one.history()
        self.assertTrue(is_history(history), history)
        self.assertEqual(repr([history, one.under_way(), one.events(), one.still_fits(), one.wrong_since()]),
                         repr([led.history(), led.under_way(), led.moment, led.fitted[-1:] != [False],
                               led.wrong_since()]))
        for asked in sums:
            wanted = led.known_now(asked)
            if wanted is None:
                error = self.check_error(NoFit, one, "known_now", asked)
                self.assertEqual(repr(error.paper), repr(loss_paper(history)))
                self.assertEqual(list(error.paper), sorted(error.paper))
            else:
                self.assertEqual(one.known_now(asked), wanted, (history, asked))
        self.assertEqual(repr(one.history()), repr(history))
        return one.wrong_since()

    def check_error(self, kind, one, name, *arguments):
        """The error of just this class that a method raises; nothing has changed, and the twin raises the same."""
        before, twin = state(one), one.twin()
        shown = repr(arguments)
        with self.assertRaises(kind, msg=(name, shown[:300])) as found:
            getattr(one, name)(*arguments)
        self.assertIs(type(found.exception), kind)
        self.assertEqual(state(one), before)
        self.assertIs(one == twin, True)
        self.assertEqual(repr(arguments), shown)
        with self.assertRaises(kind):
            getattr(twin, name)(*copy.deepcopy(arguments))
        return found.exception

    def check_field(self, kind, field, thing, one, name, *arguments):
        """The error has the very object in its field."""
        error = self.check_error(kind, one, name, *arguments)
        self.assertIs(getattr(error, field), thing)
        self.assertEqual(list(vars(error)), [field])

    def check_limit(self, most, one, deed):
        self.assertEqual(repr(self.check_error(TooMany, one, "begin", deed).most), repr(most))


class TestInterface(unittest.TestCase):
    def test_all_stand_in_the_class_in_the_file(self):
        self.assertEqual(Watch.__module__, "freshtold.watch")
        self.assertIs(vars(watch)["Watch"], Watch)
        for name, parameters in SIGNATURES.items():
            self.assertEqual(list(inspect.signature(vars(Watch)[name]).parameters), ["self"] + parameters)


class TestEvents(WatchCase):
    def test_told_whole(self):
        one = Watch((2, 1))
        self.assertEqual([one.begin(TELL), one.begin(ASK), one.known_now((1,)), one.finish(1, 1), one.known_now((1,)),
                          one.under_way()], [0, 1, "either", None, "given", (0,)])
        self.assertEqual([one.events(), one.still_fits(), one.begin(ASK), one.finish(2, "open"), one.still_fits(),
                          one.wrong_since()], [3, True, 2, None, False, 4])
        self.assertEqual(one.history(), ((2, 1), ((TELL, 0, None, None), (ASK, 1, 2, 1), (ASK, 3, 4, "open"))))

    def test_a_new_watch(self):
        for house in HOUSES + [(7, 8), (2, 100)]:
            one = Watch(house)
            self.assertEqual(repr([one.history(), one.under_way(), one.events(), one.still_fits(), one.wrong_since()]),
                             repr([(house, ()), (), 0, True, None]))
            self.assertEqual(one.known_now((0,) * house[1]), "given")
            if house[1]:
                self.assertEqual(one.known_now((1,) * house[1]), "open")

    def test_what_returns_nothing(self):
        one = led_on((2, 1), [("begin", TELL), ("begin", ASK), ("begin", ASK)])
        self.assertEqual([one.finish(0, "new"), one.lose(1), one.finish(2, None)], [None, None, None])
        self.assertEqual([one.events(), one.under_way()], [6, ()])

    def test_the_moments_of_calls(self):
        one = led_on((3, 1), [("begin", TELL), ("begin", ASK), ("begin", ASK), ("lose", 1), ("finish", 2, None),
                              ("finish", 0, "clash"), ("begin", TELL)])
        self.assertEqual(one.history(), ((3, 1), ((TELL, 0, 5, "clash"), (ASK, 1, None, None), (ASK, 2, 4, None),
                                                  (TELL, 6, None, None))))
        self.assertEqual(one.under_way(), (3,))

    def test_beside_a_led_watch(self):
        chosen, found, many = random.Random(35), [], {}
        for at in range(110):
            house = chosen.choice(HOUSES)
            one, led, bend = Watch(house), Led(house), chosen.randrange(2)
            for _ in range(chosen.randrange(4, 13)):
                event = some_event(chosen, led, 6, bend)
                if event is None:
                    break
                name, *arguments = event
                self.assertEqual(repr(getattr(one, name)(*arguments)), repr(getattr(led, name)(*arguments)))
                sums = oracle.worlds(house)
                picked = chosen.sample(sums, min(2, len(sums))) if at % 3 == 0 else []
                found.append(self.check_state(one, led, picked))
                for kind in [led.known_now(asked) for asked in picked]:
                    many[kind] = many.get(kind, 0) + 1
        self.assertGreater(len([since for since in found if since is None]), 200)
        self.assertGreater(len([since for since in found if since is not None]), 100)
        for kind in ("given", "open", "either", None):
            self.assertGreater(many[kind], 10, many)

    def test_it_is_never_so_again(self):
        chosen, many = random.Random(350), 0
        for _ in range(150):
            house = chosen.choice(HOUSES)
            one, led, fitted = Watch(house), Led(house), []
            for _ in range(20):
                event = some_event(chosen, led, 8, True)
                if event is not None:
                    getattr(led, event[0])(*event[1:])
                    getattr(one, event[0])(*event[1:])
                    fitted.append(fits_somehow(one.history()))
            self.assertEqual(fitted, sorted(fitted, reverse=True))
            self.assertEqual(one.wrong_since(), fitted.index(False) if False in fitted else None)
            many += False in fitted
        self.assertGreater(many, 50)

    def test_known_now(self):
        one = Watch((3, 2))
        self.assertEqual([one.begin(("tell", (1, 0), 1)), one.begin(("tell", (0, 1), 2))], [0, 1])
        self.assertEqual([one.known_now(asked) for asked in [(0, 0), (1, 0), (1, 1)]], ["given", "either", "either"])
        one.finish(0, "new")
        self.assertEqual([one.known_now(asked) for asked in [(2, 0), (1, 1), (0, 1)]], ["given", "either", "either"])
        one.lose(1)
        self.assertEqual([one.known_now(asked) for asked in [(2, 0), (1, 1), (0, 1)]], ["given", "either", "either"])
        self.assertEqual([one.begin(("ask", (1, 1))), one.known_now((1, 1)), one.finish(2, 0)], [2, "either", None])
        # The answer tells that the lost tell took effect, and that it did so ahead of now.
        self.assertEqual([one.known_now(asked) for asked in [(1, 1), (0, 1), (2, 1)]], ["given"] * 3)

    def test_many_calls(self):
        house = (7, 8)
        one = Watch(house)
        for place in range(6):
            one.begin(("tell", tuple(int(at == place) for at in range(8)), 1))
        for place in range(18):
            index = one.begin(("ask", tuple(int(at == place % 8) for at in range(8))))
            one.finish(index, None if place % 3 else "open")
        self.assertEqual([one.events(), one.under_way(), one.still_fits(), one.wrong_since()],
                         [42, (0, 1, 2, 3, 4, 5), True, None])
        self.assertEqual([one.known_now((0,) * 8), one.known_now((1,) * 8), one.known_now((1,) + (0,) * 7)],
                         ["given", "open", "either"])
        one.finish(0, "known")
        self.assertEqual([one.still_fits(), one.wrong_since()], [False, 42])


class TestWrong(WatchCase):
    def test_houses(self):
        good = 0
        for thing in odd_values() + near((2, 1)) + near((7, 3)):
            if oracle.a_house(thing):
                self.assertEqual(Watch(thing).history(), (thing, ()))
                good += 1
            else:
                before = repr(thing)
                with self.assertRaises(Wrong) as found:
                    Watch(thing)
                self.assertIs(type(found.exception), Wrong)
                self.assertEqual(repr([found.exception.place, thing]), repr([0, thing]))
                self.assertEqual(repr(thing), before)
        self.assertGreater(good, 5)

    def test_deeds(self):
        for house in [(2, 0), (2, 1), (3, 2)]:
            right = [("ask", (1, 0)[:house[1]]), ("tell", (1, 0)[:house[1]], 1)]
            for thing in odd_values() + near(right[0]) + near(right[1]):
                one = Watch(house)
                if oracle.a_deed(house, thing):
                    self.assertEqual([one.begin(thing), one.history()], [0, (house, ((thing, 0, None, None),))])
                else:
                    error = self.check_error(Wrong, one, "begin", thing)
                    self.assertEqual(repr(error.place), "0")

    def test_wrong_ahead_of_too_many(self):
        full = led_on((2, 1), [("begin", ASK)] * 24)
        for thing in (None, [], ("tell", (1,)), ("ask", (2,)), ("ask", (True,)), ["ask", (1,)]):
            self.assertEqual(self.check_error(Wrong, full, "begin", thing).place, 0)


class TestTooMany(WatchCase):
    def test_twenty_four_calls(self):
        one = led_on((2, 1), [("begin", ASK)] * 24)
        self.check_limit(24, one, ASK)
        self.check_limit(24, one, TELL)
        one.finish(3, 0)
        one.lose(4)
        # Those that are over count, too.
        self.check_limit(24, one, ASK)
        self.assertEqual([one.events(), len(one.history()[1])], [26, 24])

    def test_six_tells(self):
        one = led_on((2, 1), [("begin", TELL)] * 6)
        self.check_limit(6, one, TELL)
        self.assertEqual(one.begin(ASK), 6)
        one.lose(2)
        self.check_limit(6, one, TELL)
        one.finish(3, "known")
        self.assertEqual(one.begin(TELL), 7)
        self.check_limit(6, one, TELL)
        for index in (0, 1, 4, 5, 7):
            one.finish(index, "new")
        # Five can be under way beside the one that is lost.
        self.assertEqual([one.begin(TELL) for _ in range(5)], [8, 9, 10, 11, 12])
        self.check_limit(6, one, TELL)

    def test_the_calls_are_counted_first(self):
        one = led_on((2, 1), [("begin", TELL)] * 6 + [("begin", ASK)] * 17)
        self.check_limit(6, one, TELL)
        one.begin(ASK)
        self.check_limit(24, one, TELL)


class TestFinish(WatchCase):
    def watches(self):
        """Tuples of a watch and the indexes under way in it."""
        events = [("begin", TELL), ("begin", ASK), ("begin", ASK), ("begin", TELL), ("finish", 1, None), ("lose", 3)]
        return [(Watch((2, 1)), ()), (led_on((2, 1), events), (0, 2)), (led_on((5, 1), events[:3]), (0, 1, 2))]

    def test_indexes_of_any_kind(self):
        for one, under in self.watches():
            for thing in odd_values() + [-1, 24, 10 ** 30, "0", (0,), [2]]:
                if type(thing) is int and thing in under:
                    continue
                for answer in (None, "new", 0, thing):
                    self.check_field(NoCall, "index", thing, one, "finish", thing, answer)
                self.check_field(NoCall, "index", thing, one, "lose", thing)

    def test_calls_that_are_over(self):
        one = led_on((2, 1), [("begin", TELL), ("begin", ASK), ("begin", ASK)])
        one.finish(1, "open")
        one.lose(0)
        for index in (0, 1, 3, True, False, -1):
            self.check_field(NoCall, "index", index, one, "finish", index, "open")
            self.check_field(NoCall, "index", index, one, "lose", index)
        self.assertEqual(one.finish(2, 1), None)
        self.check_field(NoCall, "index", 2, one, "finish", 2, 1)

    def test_answers_of_any_kind(self):
        good = 0
        for one, under in self.watches():
            for index in under:
                deed = one.history()[1][index][0]
                things = odd_values() + near(0) + near("new") + near("open") + [*range(-1, 8), True, False]
                for thing in things:
                    if an_answer(one.history()[0], deed, thing):
                        twin = one.twin()
                        self.assertEqual(repr(twin.finish(index, thing)), "None")
                        self.assertEqual(repr(twin.history()[1][index]), repr((deed, index, one.events(), thing)))
                        good += 1
                    else:
                        self.check_field(NoAnswer, "answer", thing, one, "finish", index, thing)
        self.assertGreater(good, 20)

    def test_truths_are_no_answers(self):
        one = led_on((2, 1), [("begin", ASK), ("begin", TELL)])
        for index, answer in [(0, True), (0, False), (1, None), (1, 1), (1, "open"), (0, "new"), (0, 2), (0, -1)]:
            self.check_field(NoAnswer, "answer", answer, one, "finish", index, answer)

    def test_no_call_ahead_of_no_answer(self):
        one = led_on((2, 1), [("begin", ASK)])
        for thing in odd_values():
            self.check_field(NoCall, "index", 1, one, "finish", 1, thing)


class TestTwins(WatchCase):
    def check_equal(self, one, other, wanted):
        for found in (one == other, other == one, not one != other, not other != one):
            self.assertIs(found, wanted)

    def test_twins_go_on_alone(self):
        one = led_on((2, 1), [("begin", TELL), ("begin", ASK)])
        twin = one.twin()
        self.assertIs(type(twin), Watch)
        self.assertIsNot(twin, one)
        self.check_equal(one, twin, True)
        one.finish(1, 1)
        self.assertEqual([twin.under_way(), twin.events(), one.under_way(), one.events()], [(0, 1), 2, (0,), 3])
        self.check_equal(one, twin, False)
        twin.finish(1, "open")
        self.assertEqual([twin.history()[1][1], one.history()[1][1]], [(ASK, 1, 2, "open"), (ASK, 1, 2, 1)])
        self.check_equal(one, twin, False)
        self.check_equal(twin, led_on((2, 1), [("begin", TELL), ("begin", ASK), ("finish", 1, "open")]), True)

    def test_a_loss_is_an_event(self):
        one = led_on((2, 1), [("begin", TELL)])
        twin = one.twin()
        self.assertIsNone(twin.lose(0))
        # The histories are the same, but one of the calls is still under way.
        self.assertEqual(twin.history(), one.history())
        self.check_equal(one, twin, False)

    def test_other_events_and_houses(self):
        events = [("begin", TELL), ("begin", ASK), ("finish", 0, "new"), ("finish", 1, None)]
        one = led_on((2, 1), events)
        self.check_equal(one, led_on((2, 1), events), True)
        self.check_equal(one, one, True)
        turned = events[1::-1] + [("finish", 1, "new"), ("finish", 0, None)]
        for others in [[], events[:3], events[:2] + events[:1:-1], turned,
                       events[:2] + [("finish", 0, "known"), ("finish", 1, None)], events + [("begin", ASK)],
                       events[:3] + [("lose", 1)], events[:3] + [("finish", 1, 1)]]:
            self.check_equal(one, led_on((2, 1), others), False)
        self.check_equal(one, led_on((3, 1), events), False)
        for house in HOUSES:
            for other in HOUSES:
                self.check_equal(Watch(house), Watch(other), house == other)

    def test_lost_in_another_order(self):
        events = [("begin", TELL), ("begin", ASK)]
        self.check_equal(led_on((2, 1), events + [("lose", 0), ("lose", 1)]),
                         led_on((2, 1), events + [("lose", 1), ("lose", 0)]), False)

    def test_what_raises_an_error_does_not_count(self):
        one, other = led_on((2, 1), [("begin", TELL)]), led_on((2, 1), [("begin", TELL)])
        for name, *arguments in [("begin", None), ("finish", 0, None), ("finish", 1, "new"), ("lose", 3)]:
            with self.assertRaises(ValueError):
                getattr(one, name)(*arguments)
        self.check_equal(one, other, True)

    def test_values_of_any_kind(self):
        for one in (Watch((2, 1)), led_on((2, 1), [("begin", TELL)])):
            for thing in odd_values() + [one.history(), (one.history(),), Desk((2, 1)), [one], "watch", one.events()]:
                if not isinstance(thing, Watch):
                    self.check_equal(one, thing, False)


class TestTold(WatchCase):
    """[3]: what is returned is new, and stays as it is; equal watches tell the same."""

    def test_what_was_returned_stays_as_it_is(self):
        one = led_on((2, 1), [("begin", TELL)])
        found = [one.history(), one.under_way(), one.events()]
        shown = repr(found)
        one.finish(0, "new")
        one.begin(ASK)
        self.assertEqual(repr(found), shown)

    def test_papers_may_be_changed(self):
        one = led_on((2, 1), [("begin", ASK), ("begin", TELL), ("finish", 0, 0)])
        first = self.check_error(NoFit, one, "known_now", (1,)).paper
        shown = repr(first)
        for part in kept_in(first):
            part.clear()
        self.assertEqual(repr(self.check_error(NoFit, one, "known_now", (1,)).paper), shown)
        self.assertEqual(shown, repr(loss_paper(one.history())))

    def test_asked_again(self):
        one = led_on((3, 1), [("begin", TELL), ("begin", ASK), ("finish", 1, "open")])
        other = led_on((3, 1), [("begin", TELL), ("begin", ASK), ("finish", 1, "open")])
        Watch((3, 1)).begin(TELL)
        for name, *arguments in [("known_now", (1,)), ("known_now", (0,)), ("wrong_since",), ("still_fits",),
                                 ("under_way",), ("history",), ("events",), ("known_now", (1,))]:
            self.assertEqual(repr(getattr(one, name)(*arguments)), repr(getattr(other, name)(*arguments)))
        self.assertIs(one == other, True)


if __name__ == "__main__":
    unittest.main()
