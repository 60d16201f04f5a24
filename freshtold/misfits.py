"""Misfit papers: what shows that a whole history has no weaving."""

from freshtold.books import book_paper, is_book_paper, is_sound
from freshtold.calls import behind_of
from freshtold.errors import NoFit
from freshtold.forms import is_lot
from freshtold.peeling import all_of, has_member, is_held, lot_of, mask_of, table_of, taken_away
from freshtold.reasons import leaners, reasons


def misfit(history):
    """Return a misfit paper, or None if the history fits."""
    paper = book_paper(history)
    if paper is not None:
        return ("book", paper)
    rest = _greatest_stuck(history)
    return None if rest == 0 else ("stuck", lot_of(rest))


def is_misfit(history, thing):
    """Tell whether a value is a misfit paper."""
    if not isinstance(thing, tuple) or len(thing) != 2:
        return False
    if thing[0] == "book":
        return is_book_paper(history, thing[1])
    return thing[0] == "stuck" and is_sound(history) and is_stuck(history, thing[1])


def is_stuck(history, thing):
    """Tell whether a value is a stuck lot of a sound history."""
    if not is_lot(len(history[1]), thing) or thing == ():
        return False
    table, mask = table_of(history), mask_of(thing)
    return all([is_held(table, index, mask) for index in thing])


def why_barred(history, index, lot):
    """Return what bars a call of a sound history by a lot, or None."""
    behind, leaning = behind_of(history, index), leaners(history, index)
    for kind, others in (("ahead", behind), ("leaned", leaning)):
        found = [other for other in lot if other in others]
        if found != []:
            return (kind, found[0])
    reason = reasons(history)[index]
    if history[1][index][3] == "open" and reason is not None and all([other in lot for other in reason]):
        return ("whole", reason)
    return None


def small_stuck(history):
    """Return a stuck lot of a sound history no part of which, but itself, is one, or None."""
    table, greatest = table_of(history), _greatest_stuck(history)
    stuck = greatest
    for index in lot_of(greatest):
        if has_member(stuck, index):
            _, rest = taken_away(table, stuck - (1 << index), 0)
            if rest != 0:
                stuck = rest
    return None if stuck == 0 else lot_of(stuck)


def fitting_table(history):
    """Return the table of a history; raise NoFit if it does not fit."""
    paper = misfit(history)
    if paper is not None:
        raise NoFit(paper)
    return table_of(history)


def _greatest_stuck(history):
    """Return the mask of the greatest stuck lot of a sound history, 0 if there is none."""
    _, rest = taken_away(table_of(history), all_of(len(history[1])), 0)
    return rest
