"""By how much the stretches of a history must be widened at least, at both ends, to let it fit."""

from freshtold.calls import behind_of
from freshtold.misfits import misfit
from freshtold.peeling import fits
from freshtold.places import first_place


def widened(history, by):
    """Return a history with each begin less by a number, and each end greater by it."""
    house, calls = history
    return (house, tuple([(deed, begin - by, None if end is None else end + by, answer)
                          for deed, begin, end, answer in calls]))


def slack(history):
    """Return the least number from 0 on such that the history, widened by it, fits, or None."""
    steps = _steps(history)
    place = first_place(len(steps), lambda at: fits(widened(history, steps[at])))
    return None if place == len(steps) else steps[place]


def slack_paper(history):
    """Return a misfit paper of the history widened by just too little, or by as much as counts; None if it fits."""
    least = slack(history)
    if least == 0:
        return None
    return misfit(widened(history, _steps(history)[-1] if least is None else least - 1))


def _steps(history):
    """Return the ascending list of 0 and the numbers by which, and not by less, some calls are not ahead any more."""
    calls, steps = history[1], [0]
    for index, call in enumerate(calls):
        # Both stretches are widened: the gap between them is closed by half of it.
        steps = steps + [(calls[other][1] - call[2] + 1) // 2 for other in behind_of(history, index)]
    return sorted(set(steps))
