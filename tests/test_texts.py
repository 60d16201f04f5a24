"""[14]: what is shown, line by line and blank by blank."""

import unittest

from freshtold import texts

TELL, ASK = ("tell", (1, 0), 2), ("ask", (1, 1))


def shown(*call):
    """The text of a history with this one call."""
    return texts.show_history(((3, 2), (call,)))


class TestInterface(unittest.TestCase):
    def test_all_are_defined_in_the_file(self):
        for name in ("show_history", "show_plan"):
            self.assertEqual(getattr(texts, name).__module__, "freshtold.texts")


class TestHistories(unittest.TestCase):
    def test_no_calls(self):
        for prime in (2, 3, 5, 7):
            for many in (0, 1, 8, 10, 100):
                self.assertEqual(texts.show_history(((prime, many), ())), f"house {prime} {many}")

    def test_lines(self):
        calls = ((("tell", (1, 0), 1), 0, 3, "new"), (("ask", (1, 1)), 2, None, None))
        lines = ["tell 1 0 = 1 at 0 3 new", "ask 1 1 at 2 never -"]
        self.assertEqual(texts.show_history(((3, 2), calls)), "\n".join(["house 3 2", lines[0], lines[1]]))
        self.assertEqual(texts.show_history(((3, 2), calls[::-1])), "\n".join(["house 3 2", lines[1], lines[0]]))

    def test_tells(self):
        for answer in ("new", "known", "clash"):
            self.assertEqual(shown(TELL, 4, 6, answer), f"house 3 2\ntell 1 0 = 2 at 4 6 {answer}")
            self.assertEqual(shown(TELL, 4, None, answer), f"house 3 2\ntell 1 0 = 2 at 4 never {answer}")
        self.assertEqual(shown(TELL, 4, None, None), "house 3 2\ntell 1 0 = 2 at 4 never -")

    def test_asks(self):
        for answer in (0, 1, 2, "open"):
            self.assertEqual(shown(ASK, 4, 6, answer), f"house 3 2\nask 1 1 at 4 6 {answer}")
            self.assertEqual(shown(ASK, 4, None, answer), f"house 3 2\nask 1 1 at 4 never {answer}")
        self.assertEqual(shown(ASK, 4, 6, None), "house 3 2\nask 1 1 at 4 6 -")
        self.assertEqual(shown(ASK, 4, None, None), "house 3 2\nask 1 1 at 4 never -")

    def test_numbers_that_are_0(self):
        self.assertEqual(shown(("tell", (0, 0), 0), 0, 0, "clash"), "house 3 2\ntell 0 0 = 0 at 0 0 clash")
        self.assertEqual(shown(("ask", (0, 0)), 0, 0, 0), "house 3 2\nask 0 0 at 0 0 0")
        self.assertEqual(shown(("ask", (0, 0)), -1, 0, 0), "house 3 2\nask 0 0 at -1 0 0")
        self.assertEqual(shown(("ask", (0, 0)), 0, None, 0), "house 3 2\nask 0 0 at 0 never 0")

    def test_begins_below_0_and_long_numbers(self):
        self.assertEqual(shown(TELL, -12, -3, "new"), "house 3 2\ntell 1 0 = 2 at -12 -3 new")
        self.assertEqual(shown(ASK, -10, None, None), "house 3 2\nask 1 1 at -10 never -")
        self.assertEqual(shown(ASK, -1234567890123, 123456789012345678901, 1),
                         "house 3 2\nask 1 1 at -1234567890123 123456789012345678901 1")

    def test_no_unknowns(self):
        history = ((2, 0), ((("tell", (), 1), 0, 1, "clash"), (("ask", ()), 0, 1, 0), (("ask", ()), 1, None, None)))
        self.assertEqual(texts.show_history(history),
                         "house 2 0\ntell = 1 at 0 1 clash\nask at 0 1 0\nask at 1 never -")

    def test_one_unknown_and_many(self):
        history = ((7, 1), ((("tell", (6,), 5), 0, 1, "known"), (("ask", (4,)), 0, 1, 3)))
        self.assertEqual(texts.show_history(history), "house 7 1\ntell 6 = 5 at 0 1 known\nask 4 at 0 1 3")
        history = ((7, 8), ((("tell", (0, 1, 2, 3, 4, 5, 6, 0), 5), 0, 1, "new"),
                            (("ask", (6, 5, 4, 3, 2, 1, 0, 0)), 0, 1, "open")))
        self.assertEqual(texts.show_history(history),
                         "house 7 8\ntell 0 1 2 3 4 5 6 0 = 5 at 0 1 new\nask 6 5 4 3 2 1 0 0 at 0 1 open")

    def test_calls_keep_their_order(self):
        calls = tuple((ASK, -at, 30 - at, at % 3) for at in range(30))
        lines = texts.show_history(((3, 2), calls)).split("\n")
        self.assertEqual(lines, ["house 3 2"] + [f"ask 1 1 at {-at} {30 - at} {at % 3}" for at in range(30)])

    def test_equal_calls_are_all_shown(self):
        self.assertEqual(texts.show_history(((3, 2), ((ASK, 0, 1, 2),) * 3)), "house 3 2" + "\nask 1 1 at 0 1 2" * 3)


class TestPlans(unittest.TestCase):
    def test_no_calls(self):
        for prime in (2, 3, 5, 7):
            for many in (0, 1, 8, 10, 100):
                self.assertEqual(texts.show_plan(((prime, many), ())), f"house {prime} {many}")

    def test_lines(self):
        calls = ((TELL, 0, 2), (ASK, -7, 1234567890), (("tell", (2, 2), 0), -12, -3))
        self.assertEqual(texts.show_plan(((3, 2), calls)),
                         "house 3 2\ntell 1 0 = 2 at 0 2\nask 1 1 at -7 1234567890\ntell 2 2 = 0 at -12 -3")
        self.assertEqual(texts.show_plan(((3, 2), calls[1:])),
                         "house 3 2\nask 1 1 at -7 1234567890\ntell 2 2 = 0 at -12 -3")

    def test_numbers_that_are_0(self):
        self.assertEqual(texts.show_plan(((3, 1), ((("tell", (0,), 0), 0, 0), (("ask", (0,)), -1, 0)))),
                         "house 3 1\ntell 0 = 0 at 0 0\nask 0 at -1 0")

    def test_no_unknowns(self):
        self.assertEqual(texts.show_plan(((2, 0), ((("ask", ()), -1, 4),))), "house 2 0\nask at -1 4")
        self.assertEqual(texts.show_plan(((5, 0), ((("tell", (), 0), -1, 4),))), "house 5 0\ntell = 0 at -1 4")

    def test_calls_keep_their_order(self):
        calls = tuple((ASK, -at, 30 - at) for at in range(30))
        lines = texts.show_plan(((3, 2), calls)).split("\n")
        self.assertEqual(lines, ["house 3 2"] + [f"ask 1 1 at {-at} {30 - at}" for at in range(30)])


class TestTold(unittest.TestCase):
    """[3]: equal arguments give equal results, whatever was called before; no argument is changed."""

    def test_asked_again(self):
        history = ((3, 2), ((TELL, 0, 3, "new"), (ASK, 2, None, None)))
        plan = ((3, 2), ((TELL, 0, 3), (ASK, 2, 5)))
        before = repr((history, plan))
        first = (texts.show_history(history), texts.show_plan(plan))
        texts.show_history(((2, 0), ()))
        texts.show_plan(((2, 1), ((("ask", (1,)), 0, 0),)))
        again = tuple([texts.show_history((history[0], tuple(list(history[1])))),
                       texts.show_plan((plan[0], tuple(list(plan[1]))))])
        self.assertEqual(first, again)
        self.assertEqual(repr((history, plan)), before)
        self.assertEqual([type(text) for text in first], [str, str])


if __name__ == "__main__":
    unittest.main()
