"""[36]: lines of all kinds, beside patterns of the test's, and a watch that is led by what they say."""

import inspect
import random
import unittest

from freshtold import desk
from freshtold.desk import Desk
from freshtold.errors import NoAnswer, NoCall, NoCommand, NoFit, StoreError, TooMany, Wrong
from freshtold.losttells import loss_paper
from freshtold.texts import show_history
from freshtold.watch import Watch
from tests import oracle
from tests.cases import kept_in
from tests.histories import some_sum
from tests.values import near, odd_values
from tests.watch_oracle import command_in

HOUSES = [(2, 0), (2, 1), (3, 1), (3, 2), (7, 2)]
WORDS = ["begin", "tell", "ask", "finish", "lose", "fits", "wrong", "known", "way", "history", "=", "-", "new", "clash",
         "open", "never", "at", "0", "1", "2", "3", "6", "7", "9", "00", "01", "-0", "-1", "+1", "1_0", "0x1", "1.0",
         "10", "23", "24", "123456789", "999999999", "1234567890", "1000000000", "0000000001", "None", "True", "Fits",
         "FITS", "new,", "#", "# fits", "\t", "1\t", "\n", "1\n", "\x0b", "\u00b2", "\u0663", "\uff11", "\u00a0",
         "a" * 200, "1" * 200]
LINES = {(2, 0): ["begin tell = 1", "begin ask", "known"], (2, 1): ["begin tell 1 = 1", "begin ask 0", "known 1"],
         (3, 1): ["begin tell 2 = 0", "begin ask 1", "known 2"],
         (3, 2): ["begin tell 1 2 = 2", "begin ask 0 1", "known 1 1"],
         (7, 2): ["begin tell 6 5 = 4", "begin ask 0 3", "known 0 0"]}
COMMON = ["finish 0 new", "finish 1 open", "finish 1 -", "finish 1 1", "finish 12 known", "lose 0", "fits", "wrong",
          "way", "history"]


def led_on(house, lines):
    found = Desk(house)
    for line in lines:
        found.execute(line)
    return found


def jumbled(words):
    """All lists of words in which a word lacks, stands twice, is another one, or stands between two."""
    found = []
    for at in range(len(words) + 1):
        found += [words[:at] + words[at + 1:], words[:at] + words[at:at + 1] + words[at:]]
        found += [words[:at] + [word] + words[at:] for word in WORDS]
        found += [words[:at] + [word] + words[at + 1:] for word in WORDS]
    return found


class DeskCase(unittest.TestCase):
    def due(self, one, command):
        """What a Watch answers to a command that was read: a list of strings, or the error."""
        name, *arguments = command
        try:
            if name in ("begin", "finish", "lose"):
                found = getattr(one, name)(*arguments)
                return ["done"] if found is None else [str(found)]
            if name == "known":
                return [one.known_now(*arguments)]
        except StoreError as error:
            return error
        since = one.wrong_since()
        told = {"fits": ["yes" if one.still_fits() else "no"], "wrong": ["never" if since is None else str(since)],
                "way": [str(index) for index in one.under_way()], "history": show_history(one.history()).split("\n")}
        return told[name]

    def check_line(self, one, led, line):
        """A desk answers a line as the watch beside it does; it raises NoCommand just if the line is no command."""
        command = command_in(led.history()[0], line)
        if command is None:
            self.check_no_command(one, line)
            return "NoCommand"
        wanted = self.due(led, command)
        if isinstance(wanted, list):
            found = one.execute(line)
            self.assertEqual(repr(found), repr(wanted), line)
            found.append("more")
        else:
            with self.assertRaises(type(wanted), msg=line) as found:
                one.execute(line)
            self.assertEqual(repr(vars(found.exception)), repr(vars(wanted)), line)
        self.assertIs(one.watch() == led, True, line)
        return command[0] if isinstance(wanted, list) else type(wanted).__name__

    def check_no_command(self, one, line):
        before = one.watch()
        with self.assertRaises(NoCommand, msg=line) as found:
            one.execute(line)
        self.assertIs(type(found.exception), NoCommand)
        self.assertEqual(vars(found.exception), {})
        self.assertIs(one.watch() == before, True)


class TestInterface(unittest.TestCase):
    def test_all_stand_in_the_class_in_the_file(self):
        self.assertEqual(Desk.__module__, "freshtold.desk")
        self.assertIs(vars(desk)["Desk"], Desk)
        for name, parameters in {"__init__": ["house"], "execute": ["line"], "watch": []}.items():
            self.assertEqual(list(inspect.signature(vars(Desk)[name]).parameters), ["self"] + parameters)


class TestAnswers(DeskCase):
    def test_told_whole(self):
        one = Desk((2, 1))
        for line, wanted in [("begin tell 1 = 1", ["0"]), ("begin ask 1", ["1"]), ("known 1", ["either"]),
                             ("finish 1 open", ["done"]), ("way", ["0"]), ("fits", ["yes"]), ("wrong", ["never"]),
                             ("known 0", ["given"])]:
            self.assertEqual(one.execute(line), wanted)
        for line, wanted in [("begin ask 0", ["2"]), ("finish 2 -", ["done"]), ("begin ask 1", ["3"]),
                             ("way", ["0", "3"]), ("finish 3 0", ["done"]), ("fits", ["no"]), ("wrong", ["6"]),
                             ("lose 0", ["done"]), ("way", []), ("wrong", ["6"]),
                             ("history", ["house 2 1", "tell 1 = 1 at 0 never -", "ask 1 at 1 2 open", "ask 0 at 3 4 -",
                                          "ask 1 at 5 6 0"])]:
            self.assertEqual(one.execute(line), wanted, line)

    def test_a_new_desk(self):
        for house in HOUSES:
            one = Desk(house)
            self.assertEqual([one.execute("fits"), one.execute("wrong"), one.execute("way"), one.execute("history")],
                             [["yes"], ["never"], [], [f"house {house[0]} {house[1]}"]])
            self.assertEqual(one.execute("known" + " 0" * house[1]), ["given"])
            self.assertIs(one.watch() == Watch(house), True)

    def test_more_blanks(self):
        one = Desk((3, 2))
        for line, wanted in [("  begin  tell 1    2 =  0 ", ["0"]), (" begin ask  1 1", ["1"]), ("way ", ["0", "1"]),
                             ("   finish    1   open  ", ["done"]), (" lose  0  ", ["done"]), ("   fits   ", ["yes"]),
                             ("known   0  0", ["given"]), (" wrong", ["never"]), ("  history", 3)]:
            found = one.execute(line)
            self.assertEqual(len(found) if wanted == 3 else found, wanted)

    def test_each_answer(self):
        for answer, wanted in [("new", "new"), ("known", "known"), ("clash", "clash")]:
            one = led_on((3, 1), ["begin tell 1 = 1", f"finish 0 {answer}"])
            self.assertEqual(one.watch().history()[1], ((("tell", (1,), 1), 0, 1, wanted),))
        for answer, wanted in [("0", 0), ("1", 1), ("2", 2), ("open", "open"), ("-", None)]:
            one = led_on((3, 1), ["begin ask 1", f"finish 0 {answer}"])
            self.assertEqual(repr(one.watch().history()[1]), repr(((("ask", (1,)), 0, 1, wanted),)))

    def test_beside_a_led_watch(self):
        chosen, found = random.Random(36), []
        for house in HOUSES:
            for _ in range(25):
                one, led = Desk(house), Watch(house)
                for _ in range(14):
                    line = self.some_line(chosen, house, led)
                    found.append(self.check_line(one, led, line))
        for kind in ("begin", "finish", "lose", "known", "fits", "wrong", "way", "history", "NoCommand", "NoCall",
                     "NoAnswer", "NoFit"):
            self.assertGreater(found.count(kind), 10, kind)

    def some_line(self, chosen, house, led):
        number = chosen.randrange(house[0])
        sums = " ".join(str(factor) for factor in some_sum(chosen, house))
        index = chosen.choice((led.under_way() or (0,)) + (chosen.randrange(5),))
        answer = chosen.choice(["new", "known", "clash", "open", "-", number, number, house[0]])
        line = chosen.choice([f"begin tell {sums} = {number}", f"begin ask {sums}", f"begin tell {sums} = {number}",
                              f"finish {index} {answer}", f"finish {index} {answer}", f"finish {index} {answer}",
                              f"lose {index}", "fits", "wrong", f"known {sums}", "way", "history"])
        return chosen.choice([line] * 8 + [line.replace(" ", "   "), " " + line + "  ", line + " 0", line + " # all"])


class TestNoCommand(DeskCase):
    def test_told_whole(self):
        for line in ["", " ", "     ", "\n", "fits\n", "\nfits", "fits \n", "fits\nwrong", "way\t", "Fits", "fit",
                     "fits yes", "fits #", "# fits", "#", "fits # a remark", "begin", "begin tell", "begin tell 1 =",
                     "begin tell = 1", "begin tell 1 1 = 1", "begin tell 1 1", "begin tell 1 = 1 = 1",
                     "begin tell 1=1", "begin tell 3 = 1", "begin tell 1 = 3", "begin tell 1 = -1",
                     "begin tell -1 = 1", "begin tell 01 = 1", "begin tell 1 = 1 at 0 1", "begin ask",
                     "begin ask 1 1", "begin ask 3", "begin ask -1", "begin ask +1", "begin ask 1 at 0",
                     "begin house 3 1", "tell 1 = 1", "ask 1", "finish", "finish 0", "finish 0 1 1", "finish 0 3",
                     "finish 0 -1", "finish 0 01", "finish 0 never", "finish 0 None", "finish -1 1", "finish 00 1",
                     "finish 1234567890 1", "finish new 0", "finish 0 --", "finish 0 1\n", "finish 0\n1", "lose",
                     "lose 0 0", "lose -0", "lose -1", "lose 1.0", "lose 0000000000", "lose 1000000000", "lose x",
                     "known", "known 1 1", "known 3", "known -1", "known one", "known 1 =", "wrong 0", "way 0",
                     "history 0", "done", "events", "twin", "watch", "wrong since"]:
            one = led_on((3, 1), ["begin tell 1 = 1", "begin ask 1"])
            self.check_no_command(one, line)
            self.assertIsNone(command_in((3, 1), line), line)

    def test_of_no_unknowns(self):
        one = Desk((2, 0))
        for line in ["begin tell 1 = 1", "begin tell 1", "begin ask 0", "known 0", "begin tell ="]:
            self.check_no_command(one, line)
        self.assertEqual([one.execute("begin tell = 1"), one.execute("begin ask"), one.execute("known")],
                         [["0"], ["1"], ["given"]])

    def test_words_otherwise(self):
        many = 0
        for house, lines in LINES.items():
            one = led_on(house, [lines[0], lines[1]])
            for line in lines + COMMON:
                for words in jumbled(line.split(" ")):
                    other, led = Desk(house), Watch(house)
                    self.assertEqual(repr(one.execute("way")), repr(["0", "1"]))
                    found = " ".join(words)
                    if command_in(house, found) is None:
                        self.check_no_command(one, found)
                        many += 1
                    else:
                        self.check_line(other, led, found)
        self.assertGreater(many, 3000)

    def test_signs_otherwise(self):
        for house, lines in LINES.items():
            for line in lines + COMMON:
                for at in range(len(line) + 1):
                    for sign in " #-09=aN\n\t":
                        self.check_line(Desk(house), Watch(house), line[:at] + sign + line[at:])
                        self.check_line(Desk(house), Watch(house), line[:at] + sign + line[at + 1:])
                    self.check_line(Desk(house), Watch(house), line[:at] + line[at + 1:])

    def test_numbers_of_nine_digits(self):
        one = Desk((2, 1))
        for line in ["lose 999999999", "finish 999999999 1", "finish 123456789 -"]:
            with self.assertRaises(NoCall) as found:
                one.execute(line)
            self.assertEqual(repr(found.exception.index), line.split(" ")[1])

    def test_ahead_of_what_the_watch_raises(self):
        full = led_on((2, 1), ["begin ask 1"] * 24)
        for line in ["begin ask 2", "begin tell 1 1", "begin", "finish 99 7", "finish 0 2", "finish 0 new new",
                     "lose 99 0"]:
            self.check_no_command(full, line)


class TestWhatTheWatchRaises(DeskCase):
    def check_raised(self, wanted, one, line):
        before = one.watch()
        with self.assertRaises(type(wanted)) as found:
            one.execute(line)
        self.assertIs(type(found.exception), type(wanted))
        self.assertEqual(repr(vars(found.exception)), repr(vars(wanted)))
        self.assertIs(one.watch() == before, True)

    def test_told_whole(self):
        one = led_on((3, 1), ["begin tell 1 = 1", "begin ask 1", "finish 0 new"])
        for line, wanted in [("finish 0 new", NoCall(0)), ("finish 7 1", NoCall(7)), ("lose 0", NoCall(0)),
                             ("finish 1 new", NoAnswer("new")), ("finish 1 clash", NoAnswer("clash"))]:
            self.check_raised(wanted, one, line)
        one.execute("begin tell 1 = 2")
        for line, wanted in [("finish 2 1", NoAnswer(1)), ("finish 2 -", NoAnswer(None)), ("finish 3 open", NoCall(3)),
                             ("finish 2 open", NoAnswer("open"))]:
            self.check_raised(wanted, one, line)
        one.execute("finish 1 2")
        self.check_raised(NoFit(loss_paper(one.watch().history())), one, "known 1")

    def test_too_many(self):
        one = led_on((2, 1), ["begin tell 1 = 1"] * 6)
        self.check_raised(TooMany(6), one, "begin tell 1 = 0")
        for _ in range(18):
            one.execute("begin ask 1")
        self.check_raised(TooMany(24), one, "begin ask 1")
        self.check_raised(TooMany(24), one, "begin tell 1 = 0")


class TestWrong(DeskCase):
    def check_wrong(self, function, thing):
        before = repr(thing)
        with self.assertRaises(Wrong) as found:
            function(thing)
        self.assertIs(type(found.exception), Wrong)
        self.assertEqual([repr(found.exception.place), repr(thing)], ["0", before])

    def test_houses(self):
        good = 0
        for thing in odd_values() + near((2, 1)) + near((7, 3)):
            if oracle.a_house(thing):
                self.assertEqual(Desk(thing).watch().history(), (thing, ()))
                good += 1
            else:
                self.check_wrong(Desk, thing)
        self.assertGreater(good, 5)

    def test_lines(self):
        one = led_on((2, 1), ["begin ask 1"])
        for thing in odd_values() + [b"fits", ["fits"], ("fits",), one]:
            if isinstance(thing, str):
                self.check_line(one, one.watch(), thing)
            else:
                self.check_wrong(one.execute, thing)
        self.assertEqual(one.execute("history"), ["house 2 1", "ask 1 at 0 never -"])

    def test_long_lines(self):
        one = Desk((2, 1))
        self.assertEqual(one.execute(" " * 2995 + "fits "), ["yes"])
        self.check_no_command(one, "fits" + " 0" * 1400)
        self.check_no_command(one, "lose " + "1" * 2900)


class TestWatch(DeskCase):
    def test_a_twin(self):
        one = led_on((2, 1), ["begin tell 1 = 1", "begin ask 1"])
        twin = one.watch()
        self.assertIs(type(twin), Watch)
        self.assertIsNot(twin, one.watch())
        twin.finish(1, 1)
        twin.lose(0)
        self.assertEqual([one.execute("way"), one.watch().events(), twin.events()], [["0", "1"], 2, 4])
        one.execute("finish 1 open")
        self.assertEqual([twin.history()[1][1][3], one.watch().history()[1][1][3]], [1, "open"])

    def test_lists_are_new(self):
        one = led_on((2, 1), ["begin tell 1 = 1", "begin ask 1"])
        for line in ["way", "history", "fits", "wrong", "known 1"]:
            first = one.execute(line)
            shown = repr(first)
            self.assertEqual(len(kept_in(first)), 1)
            first.clear()
            self.assertEqual(repr(one.execute(line)), shown)


if __name__ == "__main__":
    unittest.main()
