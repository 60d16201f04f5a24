"""A desk at which a watch is led by lines of words."""

from freshtold.errors import NoCommand, Wrong
from freshtold.forms import is_deed, is_house, is_integer, is_sum
from freshtold.reader import deed_of, worth_of
from freshtold.texts import show_history
from freshtold.watch import Watch

ANSWER_WORDS = ("new", "known", "clash", "open")


class Desk:
    """A desk over the calls of a house."""

    def __init__(self, house):
        if not is_house(house):
            raise Wrong(0)
        self._house = house
        self._watch = Watch(house)

    def execute(self, line):
        """Do what a line says, and return the list of strings that is the answer."""
        if not isinstance(line, str):
            raise Wrong(0)
        words = [word for word in line.split(" ") if word != ""]
        if words == []:
            raise NoCommand()
        command, rest = words[0], words[1:]
        # What is no command is told before the watch hears of it: arguments are read ahead of a call.
        if command == "begin":
            return [str(self._watch.begin(_read_deed(self._house, rest)))]
        if command == "finish" and len(rest) == 2:
            self._watch.finish(_read_index(rest[0]), _read_answer(self._house, rest[1]))
            return ["done"]
        if command == "lose" and len(rest) == 1:
            self._watch.lose(_read_index(rest[0]))
            return ["done"]
        if command == "known":
            return [self._watch.known_now(_read_sum(self._house, rest))]
        if rest != []:
            raise NoCommand()
        return _shown(self._watch, command)

    def watch(self):
        """Return a twin of the watch that is led."""
        return self._watch.twin()


def _shown(watch, command):
    """Return the answer to a command of one word, which changes nothing."""
    if command == "fits":
        return ["yes" if watch.still_fits() else "no"]
    if command == "wrong":
        event = watch.wrong_since()
        return ["never" if event is None else str(event)]
    if command == "way":
        return [str(index) for index in watch.under_way()]
    if command == "history":
        return show_history(watch.history()).split("\n")
    raise NoCommand()


def _read_deed(house, words):
    """Return the deed that words show."""
    deed = () if words == [] else deed_of(words)
    if not is_deed(house, deed):
        raise NoCommand()
    return deed


def _read_sum(house, words):
    """Return the sum whose factors words show."""
    one = tuple([worth_of(word) for word in words])
    if not is_sum(house, one):
        raise NoCommand()
    return one


def _read_index(word):
    """Return the index that a word shows."""
    index = worth_of(word)
    if not is_integer(index) or index < 0:
        raise NoCommand()
    return index


def _read_answer(house, word):
    """Return the answer that a word shows, None for one that is unheard."""
    if word == "-":
        return None
    answer = worth_of(word)
    if answer not in ANSWER_WORDS and (not is_integer(answer) or not 0 <= answer < house[0]):
        raise NoCommand()
    return answer
