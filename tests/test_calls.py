"""[17], with the definitions of [2] and [10]: which calls are AHEAD of which, and the LOTS of them."""

import inspect
import random
import unittest

from freshtold import calls
from tests import oracle

SIGNATURES = {"is_ahead": ["what", "one", "other"], "ahead_of": ["what", "index"], "behind_of": ["what", "index"],
              "told_calls": ["what"], "asked_calls": ["what"], "new_calls": ["history"], "lost_calls": ["history"],
              "unheard_calls": ["history"]}
TELL, ASK = ("tell", (1, 0), 1), ("ask", (0, 1))

# Each with the LOTS of the calls that are ahead of each, and of those that each is ahead of, told by hand.
STRETCHES = [
    ([], [], []),
    ([(0, 3)], [()], [()]),
    # touching, and just missing
    ([(0, 3), (3, 5)], [(), ()], [(), ()]),
    ([(0, 3), (4, 5)], [(), (0,)], [(1,), ()]),
    ([(4, 5), (0, 3)], [(1,), ()], [(), (0,)]),
    ([(-5, -3), (-3, -2), (-2, 0), (-1, 1)], [(), (), (0,), (0, 1)], [(2, 3), (3,), (), ()]),
    # within one another, and the same
    ([(0, 9), (2, 5), (3, 4)], [(), (), ()], [(), (), ()]),
    ([(2, 5), (2, 5)], [(), ()], [(), ()]),
    # one moment
    ([(4, 4), (4, 4), (5, 5), (3, 3)], [(3,), (3,), (0, 1, 3), ()], [(2,), (2,), (), (0, 1, 2)]),
    ([(4, 4), (4, 9), (0, 4)], [(), (), ()], [(), (), ()]),
    ([(4, 4), (5, 9), (0, 3)], [(2,), (0, 2), ()], [(1,), (), (0, 1)]),
    # longest numbers
    ([(-999999999, -999999998), (999999998, 999999999), (999999999, 999999999), (-999999998, 999999997)],
     [(), (0, 3), (0, 3), ()], [(1, 2), (), (), (1, 2)]),
    # ahead of one that is ahead of a third one
    ([(6, 7), (0, 1), (2, 3), (4, 9), (2, 9)], [(1, 2), (), (1,), (1, 2), (1,)], [(), (0, 2, 3, 4), (0, 3), (), ()]),
]
NO_ENDS = [
    ([(0, None)], [()], [()]),
    ([(0, None), (5, 6)], [(), ()], [(), ()]),
    ([(5, None), (0, 4)], [(1,), ()], [(), (0,)]),
    ([(5, None), (0, 5)], [(), ()], [(), ()]),
    ([(5, None), (7, None), (-2, -1), (0, 6)], [(2,), (2, 3), (), (2,)], [(), (), (0, 1, 3), (1,)]),
    ([(-1, None), (0, None), (0, 0)], [(), (), ()], [(), (), ()]),
]


def plan_of(stretches):
    return ((3, 2), tuple((TELL if at % 2 else ASK, begin, end) for at, (begin, end) in enumerate(stretches)))


def histories_of(stretches):
    """Histories with such stretches: whole ones, one with asks and lost calls, and one with known answers."""
    found = []
    for deed, answer in ((TELL, "new"), (TELL, "clash"), (ASK, 0), (ASK, "open"), (ASK, None)):
        found.append(((3, 2), tuple((deed, begin, end, answer) for begin, end in stretches)))
    lost = [(TELL, begin, None, None) if end is None else (ASK, begin, end, 2) for begin, end in stretches]
    return found + [((3, 2), tuple(lost))]


def some_history(chosen, most):
    """A history by chance, with few unlike begins and ends."""
    told = []
    for _ in range(chosen.randrange(most + 1)):
        begin = chosen.randrange(-4, 5)
        end = chosen.choice([None, begin, begin + 1, begin + chosen.randrange(5)])
        deed = (("tell", (chosen.randrange(2),), chosen.randrange(2)), ("ask", (chosen.randrange(2),)))
        deed = deed[chosen.randrange(2)]
        answers = ["new", "known", "clash"] if deed[0] == "tell" else [0, 1, "open", None]
        told.append((deed, begin, end, chosen.choice(answers + ([None] if end is None else []))))
    return ((2, 1), tuple(told))


class CallCase(unittest.TestCase):
    def check(self, wanted, name, *told):
        """What a function returns is this very value, and it changes nothing that it is passed."""
        before = repr(told)
        self.assertEqual(repr(getattr(calls, name)(*told)), repr(wanted), (name, before))
        self.assertEqual(repr(told), before)

    def check_stretches(self, what, ahead, behind):
        many = len(what[1])
        for index in range(many):
            self.check(ahead[index], "ahead_of", what, index)
            self.check(behind[index], "behind_of", what, index)
            for other in range(many):
                self.check(other in behind[index], "is_ahead", what, index, other)
                self.check(other in ahead[index], "is_ahead", what, other, index)


class TestInterface(unittest.TestCase):
    def test_all_are_defined_in_the_file(self):
        for name, parameters in SIGNATURES.items():
            function = getattr(calls, name)
            self.assertEqual(function.__module__, "freshtold.calls")
            self.assertEqual(list(inspect.signature(function).parameters), parameters)


class TestAhead(CallCase):
    def test_stretches_of_histories(self):
        for stretches, ahead, behind in STRETCHES + NO_ENDS:
            for history in histories_of(stretches):
                self.check_stretches(history, ahead, behind)

    def test_stretches_of_plans(self):
        for stretches, ahead, behind in STRETCHES:
            self.check_stretches(plan_of(stretches), ahead, behind)

    def test_a_call_is_not_ahead_of_itself(self):
        for begin, end in ((0, 0), (-4, 9), (7, None)):
            self.check(False, "is_ahead", ((2, 1), ((("ask", (0,)), begin, end, 0),)), 0, 0)

    def test_by_chance(self):
        chosen = random.Random(17)
        for _ in range(150):
            history = some_history(chosen, 7)
            indexes = range(len(history[1]))
            ahead = [tuple(other for other in indexes if oracle.ahead(history, other, index)) for index in indexes]
            behind = [tuple(other for other in indexes if oracle.ahead(history, index, other)) for index in indexes]
            self.check_stretches(history, ahead, behind)

    def test_many_calls(self):
        history = ((2, 0), tuple((("ask", ()), at, at, 0) for at in range(24)))
        for index in range(24):
            self.check(tuple(range(index)), "ahead_of", history, index)
            self.check(tuple(range(index + 1, 24)), "behind_of", history, index)


class TestLots(CallCase):
    def test_no_calls(self):
        for name in ("told_calls", "asked_calls", "new_calls", "lost_calls", "unheard_calls"):
            self.check((), name, ((3, 2), ()))

    def test_told_whole(self):
        history = ((3, 2), (
            (TELL, 0, 3, "new"), (ASK, 0, 3, None), (TELL, 0, None, None), (ASK, 0, 3, 1), (TELL, 0, 3, "known"),
            (ASK, 0, None, None), (TELL, 0, None, "new"), (ASK, 0, None, "open"), (TELL, 0, 3, "clash"),
            (ASK, 0, 3, "open"), (TELL, 0, None, "known"), (ASK, 0, 0, None), (ASK, 0, None, 0),
            (TELL, 0, None, "clash"), (TELL, 0, 0, "new"), (ASK, 0, 3, 0), (TELL, -4, None, None),
        ))
        self.check((0, 2, 4, 6, 8, 10, 13, 14, 16), "told_calls", history)
        self.check((1, 3, 5, 7, 9, 11, 12, 15), "asked_calls", history)
        self.check((0, 6, 14), "new_calls", history)
        self.check((2, 5, 16), "lost_calls", history)
        self.check((1, 11), "unheard_calls", history)

    def test_plans(self):
        plan = ((3, 2), ((TELL, 0, 3), (ASK, 0, 3), (ASK, -1, 0), (TELL, 4, 4)))
        self.check((0, 3), "told_calls", plan)
        self.check((1, 2), "asked_calls", plan)
        self.check((0, 1, 2), "told_calls", ((3, 2), ((TELL, 9, 9),) * 3))
        self.check((), "asked_calls", ((3, 2), ((TELL, 9, 9),) * 3))

    def test_each_call_alone(self):
        for deed, answers in ((TELL, ["new", "known", "clash"]), (ASK, [0, 1, 2, "open"])):
            for end in (0, 5, None):
                for answer in answers + ([None] if end is None or deed == ASK else []):
                    history = ((3, 2), ((deed, 0, end, answer),))
                    self.check((0,) if deed == TELL else (), "told_calls", history)
                    self.check((0,) if deed == ASK else (), "asked_calls", history)
                    self.check((0,) if answer == "new" else (), "new_calls", history)
                    self.check((0,) if answer is None and end is None else (), "lost_calls", history)
                    self.check((0,) if answer is None and end is not None else (), "unheard_calls", history)


class TestTold(CallCase):
    """[3]: equal arguments give equal results, whatever was called before."""

    def test_asked_again(self):
        chosen = random.Random(3)
        histories = [some_history(chosen, 6) for _ in range(30)]
        lots = ("told_calls", "asked_calls", "new_calls", "lost_calls", "unheard_calls")
        first = [[getattr(calls, name)(history) for name in lots] for history in histories]
        again = [[getattr(calls, name)((history[0], tuple(list(history[1])))) for name in lots]
                 for history in reversed(histories)]
        self.assertEqual(repr(first), repr(again[::-1]))


if __name__ == "__main__":
    unittest.main()
