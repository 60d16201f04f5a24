"""The calls of histories and plans: which are ahead of which, and lots of them by what they are."""


def is_ahead(what, one, other):
    """Tell whether a call ends less than another one begins."""
    end, begin = what[1][one][2], what[1][other][1]
    return end is not None and end < begin


def ahead_of(what, index):
    """Return the lot of the calls that are ahead of a call."""
    return tuple([other for other in range(len(what[1])) if is_ahead(what, other, index)])


def behind_of(what, index):
    """Return the lot of the calls that a call is ahead of."""
    return tuple([other for other in range(len(what[1])) if is_ahead(what, index, other)])


def told_calls(what):
    """Return the lot of the tells."""
    return tuple([index for index, call in enumerate(what[1]) if call[0][0] == "tell"])


def asked_calls(what):
    """Return the lot of the asks."""
    return tuple([index for index, call in enumerate(what[1]) if call[0][0] == "ask"])


def new_calls(history):
    """Return the lot of the calls that are answered "new"."""
    return tuple([index for index, call in enumerate(history[1]) if call[3] == "new"])


def lost_calls(history):
    """Return the lot of the calls that never came back."""
    return tuple([index for index, call in enumerate(history[1]) if call[2] is None and call[3] is None])


def unheard_calls(history):
    """Return the lot of the asks that came back with no answer told."""
    # A tell with an end has an answer in any history.
    return tuple([index for index, call in enumerate(history[1]) if call[2] is not None and call[3] is None])
