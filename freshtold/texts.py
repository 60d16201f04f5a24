"""Histories and plans shown as texts, a line for the house and a line for each call."""


def show_history(history):
    """Return the text that shows a history."""
    house, calls = history
    lines = [_call_words(call) + ["-" if call[3] is None else call[3]] for call in calls]
    return _text([_house_words(house)] + lines)


def show_plan(plan):
    """Return the text that shows a plan."""
    house, calls = plan
    return _text([_house_words(house)] + [_call_words(call) for call in calls])


def _text(lines):
    """Return the text of a list of lines, each a list of words and numbers."""
    return "\n".join([" ".join([str(word) for word in words]) for words in lines])


def _house_words(house):
    """Return the words of the line of a house."""
    return ["house", house[0], house[1]]


def _call_words(call):
    """Return the words of the line of a call up to its end."""
    deed, begin, end = call[:3]
    words = [deed[0], *deed[1]]
    if deed[0] == "tell":
        words = words + ["=", deed[2]]
    return words + ["at", begin, "never" if end is None else end]
