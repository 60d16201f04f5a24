"""[33], with [6] and [22]: how far stretches must be widened, beside all numbers from 0 on."""

import random
import unittest

from freshtold import slack
from freshtold.misfits import misfit
from tests import history_oracle as told
from tests.cases import ToldCase
from tests.histories import (CALLS, EMPTY, FITTING, LATE, NOTHING, OTHER, bent_history, fitting_history, large_history,
                             mixed_histories, some_histories, sound_history)

SIGNATURES = {"widened": ["history", "by"], "slack": ["history"], "slack_paper": ["history"]}
WRONG = ((3, 2), CALLS[:2] + ((("ask", OTHER), 2, 6, 0), CALLS[3]))


def widened(history, by):
    """The history with each stretch drawn out so far."""
    return (history[0], tuple((deed, begin - by, None if end is None else end + by, answer)
                              for deed, begin, end, answer in history[1]))


def apart(gap):
    """An ask that is open, this many moments behind a tell that is new."""
    return ((2, 1), ((("tell", (1,), 1), -7, 3, "new"), (("ask", (1,)), 3 + gap, 3 + gap, "open")))


class SlackCase(ToldCase):
    def check_slack(self, history):
        """The slack is the first number at which there is a weaving; the paper is that of the number before it."""
        # Begins and ends are few moments apart here: behind that no call is ahead of another one.
        fitting = [by for by in range(25) if told.weavings(widened(history, by))]
        least = fitting[0] if fitting else None
        self.assertEqual(fitting, list(range(25 if least is None else least, 25)))
        self.check(least, slack.slack, history)
        paper = self.call(slack.slack_paper, history)
        if least == 0:
            self.assertIsNone(paper)
            return least
        bad = widened(history, 25 if least is None else least - 1)
        self.assertEqual(repr(paper), repr(misfit(bad)))
        self.assertTrue(told.a_misfit(bad, paper), (history, paper))
        return least


class TestInterface(ToldCase):
    def test_all_are_defined_in_the_file(self):
        self.check_interface(slack, SIGNATURES)


class TestWidened(SlackCase):
    def test_told_whole(self):
        history = ((2, 1), ((("tell", (1,), 1), -4, None, "new"), (("ask", (1,)), 2, 2, "open"),
                            (("tell", (1,), 0), 0, 7, "clash")))
        self.check(((2, 1), ((("tell", (1,), 1), -7, None, "new"), (("ask", (1,)), -1, 5, "open"),
                             (("tell", (1,), 0), -3, 10, "clash"))), slack.widened, history, 3)
        self.check(history, slack.widened, history, 0)
        self.check((("ask", (1, 1)), 4, 10, "open"), lambda: slack.widened(LATE, 1)[1][3])

    def test_by_0_and_more(self):
        for history in mixed_histories(random.Random(33), 20, 6):
            for by in (0, 1, 2, 10, 999999999, 10 ** 12):
                self.check(widened(history, by), slack.widened, history, by)


class TestSlack(SlackCase):
    def test_told_whole(self):
        for history, least in [(FITTING, 0), (LATE, 1), (NOTHING, None), (WRONG, None)]:
            self.check(least, slack.slack, history)
        self.check(None, slack.slack_paper, FITTING)
        self.check(("stuck", (0, 1, 3)), slack.slack_paper, LATE)
        self.check(("stuck", (0,)), slack.slack_paper, NOTHING)
        self.check(("stuck", (0,)), slack.slack_paper, ((2, 1), ((("ask", (0,)), 0, 1, "open"),)))
        self.check(misfit(WRONG), slack.slack_paper, WRONG)
        for history in [FITTING, LATE, NOTHING, WRONG] + EMPTY:
            self.check_slack(history)

    def test_gaps(self):
        # They are closed from both sides; calls that touch are not ahead of one another.
        for gap, least in [(0, 0), (1, 1), (2, 1), (3, 2), (4, 2), (5, 3), (11, 6), (999999, 500000),
                           (10 ** 9, 5 * 10 ** 8)]:
            self.check(least, slack.slack, apart(gap))
            self.check(None if gap == 0 else ("stuck", (0, 1)), slack.slack_paper, apart(gap))
            self.assertEqual(misfit(slack.widened(apart(gap), least)), None)
            if least > 0:
                self.assertIsNotNone(misfit(slack.widened(apart(gap), least - 1)))

    def test_calls_that_never_ended(self):
        endless = ((2, 1), ((("tell", (1,), 1), -7, None, "new"), (("ask", (1,)), 9, 9, "open")))
        self.check(0, slack.slack, endless)
        history = ((2, 1), ((("tell", (1,), 1), 7, None, "new"), (("ask", (1,)), 0, 4, 1)))
        self.check(2, slack.slack, history)
        self.check(("stuck", (0, 1)), slack.slack_paper, history)

    def test_none_if_no_order_at_all_fits(self):
        # The last ask is open, though its sum leans on what both others were told; the second is ahead of none.
        history = ((2, 1), ((("tell", (1,), 1), 0, 1, "new"), (("ask", (1,)), 5, 6, 1), (("ask", (0,)), 9, 9, "open")))
        self.check(None, slack.slack, history)
        self.check(("stuck", (2,)), slack.slack_paper, history)
        circle = ((2, 2), ((("tell", (1, 0), 1), 0, 0, "new"), (("tell", (1, 0), 0), 0, 0, "new")))
        self.check(None, slack.slack, circle)
        self.check(misfit(circle), slack.slack_paper, circle)

    def test_beside_all_numbers(self):
        chosen, found = random.Random(330), []
        for kind, step in ((fitting_history, 1), (sound_history, 1), (bent_history, 1), (sound_history, 3)):
            for house, calls in some_histories(chosen, kind, 100, 5):
                apart_so = [(deed, begin * step, end and end * step, answer) for deed, begin, end, answer in calls]
                found.append(self.check_slack((house, tuple(apart_so))))
        for least in (0, None, 1, 2):
            self.assertGreater(found.count(least), 10, least)

    def test_moments_far_apart(self):
        chosen, found = random.Random(331), []
        for house in [(2, 8), (7, 8), (3, 3), (5, 1)]:
            for _ in range(3):
                # Stretches of one moment, so far apart that hardly any two of them meet.
                calls = [(deed, begin * 1234567, begin * 1234567 + 1, answer)
                         for deed, begin, _, answer in large_history(chosen, house)[1]]
                history = (house, tuple(calls))
                least, paper = self.call(slack.slack, history), self.call(slack.slack_paper, history)
                found.append(least)
                self.assertIsNone(misfit(widened(history, least)))
                self.assertEqual(least == 0, paper is None)
                if least > 0:
                    self.assertEqual(repr(misfit(widened(history, least - 1))), repr(paper))
        self.assertGreater(max(found), 10 ** 6)
        far = 999999999
        edge = ((2, 1), ((("tell", (1,), 1), -far, -far, "new"), (("ask", (1,)), far, far, "open")))
        self.check(far, slack.slack, edge)


if __name__ == "__main__":
    unittest.main()
