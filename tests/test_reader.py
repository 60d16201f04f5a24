"""[15], with the texts of [14]: what is read back, what is bad in which line, and what is not at peace."""

import inspect
import random
import unittest

from freshtold import reader
from freshtold.errors import NotAtPeace, NoText, Wrong
from freshtold.sums import strife_of
from freshtold.texts import show_history, show_plan
from tests import line_oracle, oracle
from tests.values import odd_values

READ = {False: reader.read_history, True: reader.read_plan}
SHOW = {False: show_history, True: show_plan}

HISTORIES = [
    ((2, 0), ()),
    ((7, 100), ()),
    ((2, 0), ((("tell", (), 1), -3, 0, "clash"), (("ask", ()), 0, 0, 0), (("tell", (), 0), -999999999, None, None))),
    ((2, 1), ((("tell", (1,), 1), 0, None, None), (("ask", (1,)), 1, 2, None), (("ask", (0,)), -4, -4, 0))),
    ((3, 2), ((("tell", (1, 0), 1), 0, 3, "new"), (("ask", (1, 1)), 2, None, None))),
    ((3, 2), ((("tell", (0, 0), 0), 5, 5, "known"), (("tell", (2, 1), 0), -10, None, "new"),
              (("ask", (0, 2)), -1, None, "open"), (("ask", (2, 2)), 999999998, 999999999, 2))),
    ((5, 3), ((("tell", (4, 3, 2), 4), -999999999, 999999999, "known"),
              (("ask", (0, 1, 4)), 999999999, None, 3))),
    ((7, 8), ((("tell", (0, 1, 2, 3, 4, 5, 6, 0), 5), 0, 1, "new"),
              (("ask", (6, 5, 4, 3, 2, 1, 0, 0)), 0, 1, "open"), (("ask", (0,) * 8), 0, 100000000, 6))),
    ((2, 12), ((("ask", (0, 1) * 6), -100000000, -99999999, 1),)),
    ((3, 1), tuple((("ask", (at % 3,)), -at, 30 - at, (at + 1) % 3) for at in range(24))),
]
PLANS = [
    ((2, 0), ()),
    ((5, 100), ()),
    ((2, 0), ((("ask", ()), -1, 4), (("tell", (), 0), -999999999, 999999999))),
    ((7, 1), ((("tell", (2,), 6), 0, 0),)),
    ((3, 2), ((("tell", (1, 0), 2), 0, 2), (("ask", (1, 1)), -7, 123456789), (("tell", (2, 0), 1), -12, -3))),
    ((2, 3), ((("tell", (1, 1, 0), 1), 0, 2), (("tell", (0, 1, 1), 0), 0, 2), (("tell", (1, 0, 1), 1), 3, 9))),
    ((5, 1), tuple((("tell", (at % 5,), 3 * at % 5), -at, 30 - at) for at in range(24))),
    ((7, 8), ((("ask", (6, 5, 4, 3, 2, 1, 0, 0)), 0, 1),)),
]
VALUES = [(False, value) for value in HISTORIES] + [(True, value) for value in PLANS]

HISTORY_TEXT = "house 3 2\ntell 1 0 = 1 at 0 3 new\nask 1 1 at 2 never -\nask 2 0 at -4 10 2"
PLAN_TEXT = "house 3 2\ntell 1 0 = 1 at 0 3\nask 1 1 at -2 10"
BASES = [
    (False, HISTORY_TEXT),
    (False, "house 2 0\ntell = 1 at -5 -5 clash\nask at 0 never open\ntell = 0 at 12 never -\nask at 1 2 -"),
    (False, "\nhouse 2 1\n# more\n\ntell 1 = 1 at 0 9 known # is so\n  ask  1 at  0 1  open "),
    (False, "house 7 3\nask 0 6 5 at -123456789 987654321 4"),
    (True, PLAN_TEXT),
    (True, "house 2 0\ntell = 0 at -5 -5\nask at 0 1"),
    (True, "\nhouse 2 1\n# more\n\ntell 1 = 1 at 0 9 # is so\n  ask  1 at  0 1 "),
    (True, "house 7 3\nask 0 6 5 at -123456789 987654321"),
]
WORDS = ["house", "tell", "ask", "=", "at", "never", "-", "new", "known", "clash", "open", "0", "1", "2", "3", "7",
         "00", "01", "-0", "-1", "+1", "1_0", "0x1", "1.0", "1e3", "10", "99", "-99", "-07", "123456789", "1234567890",
         "-1234567890", "0000000001", "None", "True", "Never", "NEW", "new,", "--1", "- 1", "= =", "#", "\t", "1\t",
         "\r", "1\r", "\x0b", "\u00b2", "\u0663", "\uff11", "\u00a0", "\u2028", "\x85", "1\n", "a" * 200, "1" * 200]


def outcome(is_plan, text):
    """What reading a text comes to, shown: a value, or the name of an error with what it keeps."""
    try:
        return repr(READ[is_plan](text))
    except NoText as error:
        return f"NoText {error.line!r}"
    except NotAtPeace as error:
        return f"NotAtPeace {error.paper!r}"


def due(is_plan, text):
    """What reading a text must come to."""
    told = line_oracle.shown_by(text, is_plan)
    if type(told) is int:
        return f"NoText {told}"
    rows = tuple(call[0][1:] for call in told[1] if call[0][0] == "tell")
    if is_plan and strife_of(told[0], rows) is not None:
        return f"NotAtPeace {strife_of(told[0], rows)}"
    return repr(told)


def swapped(parts, at):
    """A list in which a part and the one behind it have changed places."""
    return parts[:at] + parts[at:at + 2][::-1] + parts[at + 2:]


def jumbled(parts):
    """All lists or strings that come of one by leaving a part out, doubling it, or changing it about with the next."""
    for at in range(len(parts)):
        yield parts[:at] + parts[at + 1:]
        yield parts[:at + 1] + parts[at:]
        yield swapped(parts, at)


def bent(text):
    """Texts, most of them bad, that come of one by a change in one place."""
    for at in range(len(text)):
        yield text[:at]
        yield text[at:]
        for sign in " #-0129=aN\t\r\n\x0b.,":
            yield text[:at] + sign + text[at:]
            yield text[:at] + sign + text[at + 1:]
    yield from jumbled(text)
    lines = text.split("\n")
    yield from ("\n".join(found) for found in jumbled(lines))
    for at, line in enumerate(lines):
        words = line.split(" ")
        found = [" ".join(others) for others in jumbled(words)]
        found += [" ".join(words[:place] + [word] + words[place + 1:]) for place in range(len(words)) for word in WORDS]
        found += [" ".join(words[:place] + [word] + words[place:]) for place in range(len(words) + 1) for word in WORDS]
        yield from ("\n".join(lines[:at] + [other] + lines[at + 1:]) for other in found)


def dressed(chosen, text):
    """A text that shows the same, with more blanks, remarks and lines without words."""
    found = []
    for line in text.split("\n"):
        for _ in range(chosen.randrange(3)):
            found.append(chosen.choice(["", " ", "    ", "#", "# house 2 1", "  #tell 1 = 1\tat 0 0 new", "###"]))
        words = [word + " " * chosen.randrange(1, 4) for word in line.split(" ")]
        behind = chosen.choice(["", "", "# new", "#", "#-\t#\u00e4 99"])
        last = words.pop().strip(" ") + " " * chosen.randrange(3)
        found.append(" " * chosen.randrange(3) + "".join(words) + last + behind)
    return "\n".join(found + [""] * chosen.randrange(3))


class ReaderCase(unittest.TestCase):
    def check_bad(self, is_plan, text, line):
        """Reading a text raises NoText with this line, the very integer."""
        with self.assertRaises(NoText, msg=repr(text)[:300]) as caught:
            READ[is_plan](text)
        self.assertEqual(repr(caught.exception.line), repr(line), repr(text)[:300])

    def check_both_bad(self, text, line):
        for is_plan in (False, True):
            self.check_bad(is_plan, text, line)

    def check_read(self, is_plan, text, value):
        """Reading a text gives this value, the very integers, not truths."""
        self.assertEqual(repr(READ[is_plan](text)), repr(value), repr(text)[:300])


class TestInterface(unittest.TestCase):
    def test_all_are_defined_in_the_file(self):
        for name in ("read_history", "read_plan"):
            function = getattr(reader, name)
            self.assertEqual(function.__module__, "freshtold.reader")
            self.assertEqual(list(inspect.signature(function).parameters), ["text"])


class TestRead(ReaderCase):
    def test_what_is_shown_is_read_back(self):
        for is_plan, value in VALUES:
            self.check_read(is_plan, SHOW[is_plan](value), value)

    def test_blanks_remarks_and_lines_without_words_mean_nothing(self):
        chosen = random.Random(15)
        for is_plan, value in VALUES:
            text = SHOW[is_plan](value)
            for _ in range(40):
                other = dressed(chosen, text)
                self.check_read(is_plan, other, value)
                self.assertEqual(SHOW[is_plan](READ[is_plan](other)), text)

    def test_told_whole(self):
        self.check_read(False, "house 3 2\n# two calls\ntell 1 0 = 1 at 0 3 new\n ask 1  1 at 2 never -",
                        ((3, 2), ((("tell", (1, 0), 1), 0, 3, "new"), (("ask", (1, 1)), 2, None, None))))
        self.check_read(False, "  # a house\n\n   house   5  0   # no unknowns\n\n tell = 4 at -1 never clash#!\n#\n",
                        ((5, 0), ((("tell", (), 4), -1, None, "clash"),)))
        self.check_read(True, "#\nhouse 2 1#\nask 1 at -3 -3 # tell\n\ntell 1 = 0 at 7 8",
                        ((2, 1), ((("ask", (1,)), -3, -3), (("tell", (1,), 0), 7, 8))))

    def test_house_alone(self):
        for prime in (2, 3, 5, 7):
            for many in (0, 1, 8, 10, 100):
                for is_plan in (False, True):
                    self.check_read(is_plan, f"house {prime} {many}", ((prime, many), ()))
                    self.check_read(is_plan, f"\n \n house  {prime}   {many} \n#\n", ((prime, many), ()))

    def test_each_answer(self):
        for answer in ("new", "known", "clash"):
            for end in (4, None):
                shown = "never" if end is None else end
                self.check_read(False, f"house 3 1\ntell 2 = 0 at 4 {shown} {answer}",
                                ((3, 1), ((("tell", (2,), 0), 4, end, answer),)))
        for answer in (0, 1, 2, "open"):
            for end in (4, None):
                shown = "never" if end is None else end
                self.check_read(False, f"house 3 1\nask 2 at 4 {shown} {answer}",
                                ((3, 1), ((("ask", (2,)), 4, end, answer),)))
        self.check_read(False, "house 3 1\ntell 2 = 0 at 4 never -", ((3, 1), ((("tell", (2,), 0), 4, None, None),)))
        self.check_read(False, "house 3 1\nask 2 at 4 never -", ((3, 1), ((("ask", (2,)), 4, None, None),)))
        self.check_read(False, "house 3 1\nask 2 at 4 4 -", ((3, 1), ((("ask", (2,)), 4, 4, None),)))

    def test_calls_that_clash_are_a_history(self):
        text = "house 2 1\ntell 1 = 1 at 0 1 new\ntell 1 = 0 at 0 1 new\ntell 0 = 1 at 5 6 known"
        self.assertEqual(len(reader.read_history(text)[1]), 3)


class TestBadLines(ReaderCase):
    def test_lacking_house(self):
        for text, many in [("", 1), ("\n", 2), ("   ", 1), ("#", 1), ("# house 2 1", 1), (" \n#\n\n  # x\n", 5)]:
            self.check_both_bad(text, many)

    def test_house_not_first(self):
        self.check_bad(False, "tell 1 = 1 at 0 0 new\nhouse 2 1", 0)
        self.check_bad(False, "\n#\nask 1 at 0 0 open\nhouse 2 1", 2)
        self.check_bad(True, "tell 1 = 1 at 0 0\nhouse 2 1", 0)
        self.check_bad(True, "ask at 0 0", 0)

    def test_house_twice(self):
        self.check_both_bad("house 2 1\nhouse 2 1", 1)
        self.check_bad(False, "house 2 1\n\n#\nask 1 at 0 0 open\nhouse 2 1\nask 1 at 0 0 open", 4)
        self.check_bad(True, "house 2 1\nask 1 at 0 0\nhouse 3 1", 2)

    def test_no_house(self):
        for line in ["house", "house 2", "house 2 1 0", "house 2 1 house", "House 2 1", "HOUSE 2 1", "house 1 2",
                     "house 4 1", "house 0 1", "house 6 1", "house 9 1", "house 11 1", "house -2 1", "house 2 -1",
                     "house 02 1", "house 2 01", "house 2 00", "house 2 -0", "house +2 1", "house 2 +1", "house 2 1.0",
                     "house 2 x", "house two 1", "house 2 1,", "house2 1", "2 1", "house 2 1000000000",
                     "house 2 0000000001", "house (2, 1)", "house 2\t1", "house\t2 1", "house 2 1\t", "house 2 1\r",
                     "house 2 \u0661", "house \u0662 1", "house 2 \u00b9", "house 2 1_0", "house 2 None", "hous 2 1",
                     "house 2 never", "house - 1", "x", "=", "-", "1", "\t", "\x0b", "\u00a0"]:
            self.check_both_bad(line, 0)
            self.check_both_bad("\n # \n" + line + "\nhouse 2 1", 2)

    def test_no_call_in_a_history(self):
        for line in ["tell 1 0 = 1 at 0 3", "tell 1 0 = 1 at 0 3 -", "tell 1 0 = 1 at 0 3 open",
                     "tell 1 0 = 1 at 0 3 1", "tell 1 0 = 1 at 0 never 0", "tell 1 0 = 1 at 0 3 New",
                     "tell 1 0 = 1 at 0 3 none", "tell 1 0 = 1 at 0 3 new new", "tell 1 0 = 1 at 0 3 new -",
                     "tell 1 0 = 1 at 4 3 new", "tell 1 0 = 1 at -3 -4 new", "tell 1 0 = 1 at never 3 new",
                     "tell 1 0 = 1 at 0 - new", "tell 1 0 = 1 at - 3 new", "tell 1 0 = 1 at 0 Never new",
                     "tell 1 0 = 3 at 0 3 new", "tell 1 0 = -1 at 0 3 new", "tell 1 3 = 1 at 0 3 new",
                     "tell -1 0 = 1 at 0 3 new", "tell 1 = 1 at 0 3 new", "tell 1 0 0 = 1 at 0 3 new",
                     "tell = 1 at 0 3 new", "tell 1 0 1 at 0 3 new", "tell 1 0 = at 0 3 new",
                     "tell 1 0 = = 1 at 0 3 new", "tell 1 0 == 1 at 0 3 new", "tell 1 0 =1 at 0 3 new",
                     "tell 1 0= 1 at 0 3 new", "tell 1 0 = 1 0 3 new", "tell 1 0 = 1 at at 0 3 new",
                     "tell 1 0 = 1 At 0 3 new", "tell 1 0 = 1 at 0 new", "tell 1 0 = 1 at 3 new", "tell 1 0 = 1 at",
                     "tell 1 0 = 1", "tell", "1 0 = 1 at 0 3 new", "told 1 0 = 1 at 0 3 new",
                     "Tell 1 0 = 1 at 0 3 new", "tell tell 1 0 = 1 at 0 3 new", "ask 1 0 = 1 at 0 3 new",
                     "ask 1 0 = 1 at 0 3 1", "tell 1 0 at 0 3 new", "tell 1 0 at 0 3 1", "ask 1 0 at 0 3",
                     "ask 1 0 at 0 3 new", "ask 1 0 at 0 3 known", "ask 1 0 at 0 3 clash", "ask 1 0 at 0 3 3",
                     "ask 1 0 at 0 3 -1", "ask 1 0 at 0 3 01", "ask 1 0 at 0 3 Open", "ask 1 0 at 0 3 never",
                     "ask 1 at 0 3 0", "ask 1 0 0 at 0 3 0", "ask at 0 3 0", "ask 1 3 at 0 3 0", "ask 1 0 at 4 3 0",
                     "ask 1 0 at 4 3 -", "at 0 3 new", "0 3 new", "at 0 3 0", "new", "-", "never", "at", "house",
                     "tell 01 0 = 1 at 0 3 new", "tell 1 00 = 1 at 0 3 new", "tell 1 0 = 01 at 0 3 new",
                     "tell 1 0 = 1 at 00 3 new", "tell 1 0 = 1 at 0 03 new", "tell 1 0 = 1 at -0 3 new",
                     "tell 1 0 = 1 at +0 3 new", "tell 1 0 = 1 at 0 +3 new", "tell 1 0 = 1 at -01 3 new",
                     "tell 1 0 = 1 at --1 3 new", "tell 1 0 = 1 at 0 1234567890 new", "tell 1 0 = 1 at 0 3_0 new",
                     "tell 1 0 = 1 at -1234567890 3 new", "tell 1 0 = 1 at 0 0000000003 new",
                     "tell 1 0 = 1 at 0 3 new\t", "tell\t1 0 = 1 at 0 3 new", "\ttell 1 0 = 1 at 0 3 new",
                     "tell 1 0 = 1 at 0 3 new\r", "tell 1 0 = 1 at 0 3 new.", "tell 1, 0 = 1 at 0 3 new",
                     "tell 1 0 = \u0661 at 0 3 new", "tell 1 0 = 1 at 0 \u00b3 new", "tell 1 0 = 1 at 0 3.0 new",
                     "tell 1 0 = 1\x0bat 0 3 new", "tell 1 0 = 1 at\u00a00 3 new", "tell 1 0 = 1 at 0 3 new;"]:
            self.check_bad(False, "house 3 2\n" + line, 1)
            self.check_bad(False, HISTORY_TEXT + "\n#\n" + line + "\n" + line, 5)

    def test_no_call_in_a_plan(self):
        for line in ["tell 1 0 = 1 at 0 3 new", "tell 1 0 = 1 at 0 3 -", "tell 1 0 = 1 at 0 never",
                     "tell 1 0 = 1 at 0 never -", "tell 1 0 = 1 at 0", "tell 1 0 = 1 at 0 -", "tell 1 0 = 1 at 4 3",
                     "tell 1 0 = 1 at never 3", "tell 1 0 = 3 at 0 3", "tell 1 3 = 1 at 0 3", "tell 1 = 1 at 0 3",
                     "tell 1 0 0 = 1 at 0 3", "tell 1 0 1 at 0 3", "tell 1 0 = 1 0 3", "tell 1 0 at 0 3",
                     "ask 1 0 = 1 at 0 3", "ask 1 0 at 0 3 open", "ask 1 0 at 0 3 0", "ask 1 0 at 0 3 -",
                     "ask 1 0 at 0 never", "ask 1 0 at 0 never -", "ask 1 at 0 3", "ask 1 0 0 at 0 3", "ask 1 0 0 3",
                     "at 0 3", "0 3", "told 1 0 = 1 at 0 3", "new", "house", "tell 1 0 = 1 at 00 3",
                     "ask 1 0 at 0 1234567890", "ask 1 0 at -0 1", "ask 1 0 at 0 1\t", "ask 1 0 at", "ask 1 0 at 0",
                     "ask", "tell", "tell 1 0 = 1 at 0 3 new new"]:
            self.check_bad(True, "house 3 2\n" + line, 1)
            self.check_bad(True, PLAN_TEXT + "\n#\n" + line + "\n" + line, 4)

    def test_a_history_read_as_a_plan_and_the_other_way_about(self):
        for is_plan, value in VALUES:
            if value[1]:
                self.check_bad(not is_plan, SHOW[is_plan](value), 1)
        self.check_bad(True, "\n" + HISTORY_TEXT, 2)
        self.check_bad(False, "#\n#\n" + PLAN_TEXT, 3)

    def test_the_first_bad_line_is_told(self):
        for at in range(2, 7):
            lines = ["house 3 2"] + ["ask 1 1 at 2 9 -"] * 6 + ["house 3 2"]
            lines[at] = "ask 1 1 at 2 1 -"
            self.check_bad(False, "\n".join(lines), at)
            lines[1] = "" if at == 2 else "# ask"
            self.check_bad(False, "\n".join(lines), at)
            lines[0] = "house 4 2"
            self.check_bad(False, "\n".join(lines), 0)

    def test_another_house_makes_lines_bad(self):
        for is_plan, text in ((False, HISTORY_TEXT), (True, PLAN_TEXT)):
            for house in ("2 2", "5 2", "7 2", "3 1", "3 3", "3 0"):
                other = text.replace("house 3 2", "house " + house)
                self.assertEqual(outcome(is_plan, other), due(is_plan, other))
        self.check_bad(False, HISTORY_TEXT.replace("house 3 2", "house 2 2"), 3)
        self.check_bad(False, HISTORY_TEXT.replace("house 3 2", "house 3 1"), 1)
        self.check_bad(False, HISTORY_TEXT.replace("house 3 2", "house 3 3"), 1)

    def test_a_change_in_one_place(self):
        for is_plan, base in BASES:
            good, bad = 0, 0
            for text in bent(base):
                for other in (is_plan, not is_plan):
                    wanted = due(other, text)
                    self.assertEqual(outcome(other, text), wanted, (other, text))
                good, bad = good + (due(is_plan, text)[0] == "("), bad + (due(is_plan, text)[:6] == "NoText")
            self.assertTrue(good > 20 and bad > 200, base)


class TestPeace(ReaderCase):
    def check_strife(self, text, house, rows):
        """Reading a plan raises NotAtPeace with what strife_of returns, which makes another number of nothing."""
        with self.assertRaises(NotAtPeace, msg=text) as caught:
            reader.read_plan(text)
        paper = caught.exception.paper
        self.assertEqual(repr(paper), repr(strife_of(house, rows)), text)
        one, number = oracle.row_of(house, rows, paper)
        self.assertEqual((one, number != 0), ((0,) * house[1], True), text)

    def test_strife(self):
        self.check_strife("house 2 0\ntell = 1 at 0 0", (2, 0), (((), 1),))
        self.check_strife("house 5 1\nask 0 at 0 1\ntell 0 = 3 at 0 0\nask 1 at 0 1", (5, 1), (((0,), 3),))
        self.check_strife("house 3 2\ntell 1 0 = 1 at 0 3\n\nask 0 1 at 0 1\ntell 0 1 = 1 at 0 9\ntell 2 2 = 2 at 5 6",
                          (3, 2), (((1, 0), 1), ((0, 1), 1), ((2, 2), 2)))

    def test_the_rows_stand_in_the_order_of_the_calls(self):
        chosen = random.Random(10)
        found = 0
        for house in ((2, 1), (2, 2), (3, 2), (5, 2), (7, 1), (7, 3)):
            for _ in range(60):
                rows = tuple((tuple(chosen.randrange(house[0]) for _ in range(house[1])), chosen.randrange(house[0]))
                             for _ in range(chosen.randrange(2, 6)))
                calls = [(("tell",) + row, chosen.randrange(9), 9) for row in rows]
                for at in sorted([chosen.randrange(len(calls) + 1) for _ in range(3)], reverse=True):
                    calls.insert(at, (("ask", rows[0][0]), 0, 5))
                text = show_plan((house, tuple(calls)))
                if strife_of(house, rows) is None:
                    self.check_read(True, text, (house, tuple(calls)))
                else:
                    self.check_strife(text, house, rows)
                    found += 1
        self.assertTrue(100 < found < 300)

    def test_a_bad_line_goes_ahead(self):
        self.check_bad(True, "house 2 1\ntell 1 = 1 at 0 0\ntell 1 = 0 at 0 0\nask 1 at 1 0", 3)
        self.check_bad(True, "house 2 1\ntell 0 = 1 at 0 0\n\nhouse 2 1", 3)
        self.check_bad(True, "house 2 1\ntell 0 = 2 at 0 0\ntell 0 = 1 at 0 0", 1)

    def test_histories_need_no_peace(self):
        text = "house 2 1\ntell 1 = 1 at 0 0 new\ntell 1 = 0 at 0 0 clash\ntell 0 = 1 at 0 0 clash"
        self.assertEqual(len(reader.read_history(text)[1]), 3)


class TestAnyValue(ReaderCase):
    def test_other_kinds(self):
        for is_plan in (False, True):
            for value in odd_values() + [b"house 2 1", ["house 2 1"], ("house 2 1",), {"house": 2}]:
                before = repr(value)
                if type(value) is str:
                    self.assertEqual(outcome(is_plan, value), due(is_plan, value))
                else:
                    with self.assertRaises(Wrong, msg=before[:200]) as caught:
                        READ[is_plan](value)
                    self.assertEqual(repr(caught.exception.place), "0")
                    self.assertIs(type(caught.exception), Wrong)
                self.assertEqual(repr(value), before)

    def test_long_texts(self):
        for is_plan in (False, True):
            for text in ("\n" * 3000, " " * 3000, "#" * 3000, "1" * 3000, "house " * 500, "house 2 1\n" + "1 " * 1400,
                         "house 2 1\n" + "tell " * 500, "house 2 100\n" * 200, "house 2 0" + "\nask at 0 0" * 250,
                         "house 2 0" + "\nask at 0 0 -" * 220):
                self.assertEqual(outcome(is_plan, text), due(is_plan, text))


class TestTold(ReaderCase):
    """[3]: equal arguments give equal results, whatever was called before."""

    def test_asked_again(self):
        texts = [(is_plan, text) for is_plan, text in BASES] + [
            (True, "house 2 1\ntell 1 = 1 at 0 0\ntell 1 = 0 at 0 0"), (False, "house"), (True, ""), (False, "\n"),
        ]
        first = [outcome(is_plan, text) for is_plan, text in texts]
        again = [outcome(is_plan, "".join(list(text))) for is_plan, text in reversed(texts)]
        self.assertEqual(first, again[::-1])


if __name__ == "__main__":
    unittest.main()
