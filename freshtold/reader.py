"""Histories and plans read from texts: those that freshtold.texts shows, with remarks and more blanks between."""

from freshtold.errors import NotAtPeace, NoText, Wrong
from freshtold.forms import is_call, is_house
from freshtold.sums import strife_of

MOST_DIGITS = 9
ANSWERS_WITH_END = {"tell": "new", "ask": "open"}


def read_history(text):
    """Return the history that a text shows."""
    if not isinstance(text, str):
        raise Wrong(0)
    return _read(text, _call_of)


def read_plan(text):
    """Return the plan that a text shows."""
    if not isinstance(text, str):
        raise Wrong(0)
    house, calls = _read(text, _planned_of)
    paper = strife_of(house, tuple([call[0][1:] for call in calls if call[0][0] == "tell"]))
    if paper is not None:
        raise NotAtPeace(paper)
    return (house, calls)


def deed_of(words):
    """Return the deed that words, one at least, show; if they show none, what is no deed of any house."""
    worths = tuple([worth_of(word) for word in words])
    if words[-2:-1] == ["="]:
        return (words[0], worths[1:-2], worths[-1])
    return (words[0], worths[1:])


def worth_of(word):
    """Return the number that a word shows as Python does, in so few digits as may stand; otherwise the word itself."""
    digits = word[1:] if word.startswith("-") else word
    # There are other digits than the ten of ASCII, and int() reads them.
    if not digits.isascii() or not digits.isdigit() or len(digits) > MOST_DIGITS:
        return word
    number = int(word)
    return number if str(number) == word else word


def _read(text, call_of):
    """Return (house, calls) of a text; call_of tells what the words of a call's line show."""
    lines = text.split("\n")
    house, calls = None, []
    for index, line in enumerate(lines):
        words = _words_of(line)
        if words == []:
            continue
        found = _house_of(words) if house is None else call_of(house, words)
        if found is None:
            raise NoText(index)
        if house is None:
            house = found
        else:
            calls.append(found)
    if house is None:
        raise NoText(len(lines))
    return (house, tuple(calls))


def _words_of(line):
    """Return the list of the words of a line, without its remark."""
    # Only the blank parts words: split() without a sign would take a tab for one.
    return [word for word in line.partition("#")[0].split(" ") if word != ""]


def _house_of(words):
    """Return the house that the words of a line show, or None."""
    house = tuple([worth_of(word) for word in words[1:]])
    if words[0] != "house" or not is_house(house):
        return None
    return house


def _call_of(house, words):
    """Return the call of a history that the words of a line show, or None."""
    if len(words) < 5 or words[-4] != "at":
        return None
    begin, end, answer = words[-3:]
    end = None if end == "never" else worth_of(end)
    answer = None if answer == "-" else worth_of(answer)
    call = (deed_of(words[:-4]), worth_of(begin), end, answer)
    if not is_call(house, call):
        return None
    return call


def _planned_of(house, words):
    """Return the call of a plan that the words of a line show, or None."""
    # With an answer behind it, that any call with an end can have, the line is one of a history.
    call = _call_of(house, words + [ANSWERS_WITH_END.get(words[0], "")])
    if call is None or call[2] is None:
        return None
    return call[:3]
