"""The texts of [14] and [15] told again, line by line, as patterns."""

import re

LONG_NUMBER = "(?:0|-?[1-9][0-9]{0,8})"


def shown_by(text, is_plan):
    """The value (house, calls) that a text shows, or the index of its first bad line, or of the lacking one."""
    house, calls = None, []
    lines = text.split("\n")
    for index, line in enumerate(lines):
        line = re.sub(" +", " ", re.sub("#.*", "", line, flags=re.DOTALL)).strip(" ")
        if line == "":
            continue
        found = house_in(line) if house is None else call_in(house, line, is_plan)
        if found is None:
            return index
        if house is None:
            house = found
        else:
            calls.append(found)
    return len(lines) if house is None else (house, tuple(calls))


def house_in(line):
    found = re.fullmatch("house ([2357]) (0|[1-9][0-9]{0,8})", line)
    return found and (int(found[1]), int(found[2]))


def call_in(house, line, is_plan):
    number = f"[0-{house[0] - 1}]"
    factors = f"(?P<factors>(?: {number}){{{house[1]}}})"
    stretch = f" at (?P<begin>{LONG_NUMBER}) (?P<end>{LONG_NUMBER}{'' if is_plan else '|never'})"
    for deed, answers in [(f"(?P<word>tell){factors} = (?P<number>{number})", "new|known|clash|-"),
                          (f"(?P<word>ask){factors}", f"{number}|open|-")]:
        found = re.fullmatch(deed + stretch + ("" if is_plan else f" (?P<answer>{answers})"), line)
        if found:
            return call_of(found.groupdict())
    return None


def call_of(told):
    """The call of which a pattern found the parts, or None if they don't go together."""
    deed = (told["word"], tuple(int(factor) for factor in told["factors"].split()))
    if "number" in told:
        deed += (int(told["number"]),)
    begin, end = int(told["begin"]), None if told["end"] == "never" else int(told["end"])
    if end is not None and end < begin:
        return None
    if "answer" not in told:
        return (deed, begin, end)
    if told["answer"] == "-":
        return (deed, begin, end, None) if end is None or deed[0] == "ask" else None
    return (deed, begin, end, int(told["answer"]) if told["answer"].isdigit() else told["answer"])
