"""What [35] and [36] say, told again: a watch as a list of calls, what it tells by all lots, and lines as patterns."""

import re

from tests import history_oracle as told
from tests import oracle


class Led:
    """A watch that is led by the words of [35]; wrong calls are not asked of it."""

    def __init__(self, house):
        self.house, self.calls, self.over, self.fitted, self.moment = house, [], [], [], 0

    def history(self):
        return (self.house, tuple(tuple(call) for call in self.calls))

    def under_way(self):
        return tuple(index for index in range(len(self.calls)) if index not in self.over)

    def open_tells(self):
        """How many tells are UNDER WAY or LOST."""
        return len([call for call in self.calls if call[0][0] == "tell" and call[3] is None])

    def begin(self, deed):
        self.calls.append([deed, self.moment, None, None])
        self.passed()
        return len(self.calls) - 1

    def finish(self, index, answer):
        self.calls[index][2:] = [self.moment, answer]
        self.over.append(index)
        self.passed()

    def lose(self, index):
        self.over.append(index)
        self.passed()

    def passed(self):
        """One event more: whether there is a filling behind it is kept."""
        self.moment += 1
        self.fitted.append(bool(told.taken_lots(self.history())))

    def wrong_since(self):
        return self.fitted.index(False) if False in self.fitted else None

    def known_now(self, one):
        """What is known of a sum at the moment that comes next, `None` if there is no filling."""
        kinds = set()
        for lot in told.taken_lots(self.history()):
            probed = told.probed(told.filled(self.history(), lot, ()), self.moment)
            kinds.add(told.known(probed, len(probed[1]) - 1, one))
        return None if not kinds else kinds.pop() if len(kinds) == 1 else "either"


def an_answer(house, deed, thing):
    """Whether any value is an answer that a call with this deed and an end can have."""
    if thing is None:
        return deed[0] == "ask"
    return oracle.a_call(house, (deed, 0, 0, thing))


def command_in(house, line):
    """The command of a line, a tuple of its word and what stands behind it, or `None`."""
    number = f"[0-{house[0] - 1}]"
    index = "(0|[1-9][0-9]{0,8})"
    factors = f"((?: {number}){{{house[1]}}})"
    line = re.sub(" +", " ", line).strip(" ")
    for pattern, read in [
            (f"begin tell{factors} = ({number})", lambda found: ("begin", ("tell", numbers(found[1]), int(found[2])))),
            (f"begin ask{factors}", lambda found: ("begin", ("ask", numbers(found[1])))),
            (f"finish {index} (new|known|clash|open|-|{number})",
             lambda found: ("finish", int(found[1]), answer(found[2]))),
            (f"lose {index}", lambda found: ("lose", int(found[1]))),
            (f"known{factors}", lambda found: ("known", numbers(found[1]))),
            ("(fits|wrong|way|history)", lambda found: (found[1],))]:
        found = re.fullmatch(pattern, line)
        if found:
            return read(found)
    return None


def numbers(words):
    return tuple(int(word) for word in words.split())


def answer(word):
    return None if word == "-" else int(word) if word.isdigit() else word
