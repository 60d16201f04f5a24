"""Which lots of the tells that never came back can have taken effect, and papers that show that none can."""

from freshtold.fillings import are_lost_tells, lost_lots, with_taken
from freshtold.leastlots import has_part
from freshtold.misfits import is_misfit, misfit
from freshtold.peeling import fits


def lots_taken(history):
    """Return the ascending list of all lots of lost tells that can be taken."""
    return [lot for lot in lost_lots(history) if fits(with_taken(history, lot))]


def least_taken(history):
    """Return the ascending list of those lots that can be taken in which no other one lies."""
    lots = lots_taken(history)
    return [lot for lot in lots if not has_part(lot, [other for other in lots if other != lot])]


def must_take(history):
    """Return the lot of the tells that are in all lots that can be taken, or None if there is no such lot."""
    lots = lots_taken(history)
    return None if lots == [] else tuple([index for index in lots[0] if all([index in lot for lot in lots])])


def can_take(history):
    """Return the lot of the tells that are in some lot that can be taken, or None if there is no such lot."""
    lots = lots_taken(history)
    return None if lots == [] else tuple(sorted({index for lot in lots for index in lot}))


def fits_somehow(history):
    """Tell whether there is a filling."""
    return loss_paper(history) is None


def loss_paper(history):
    """Return the dict from all lots of lost tells to misfit papers, or None if one of them can be taken."""
    papers = {}
    for lot in lost_lots(history):
        paper = misfit(with_taken(history, lot))
        if paper is None:
            return None
        papers[lot] = paper
    return papers


def is_loss_paper(history, thing):
    """Tell whether a value is a loss paper."""
    lots = lost_lots(history)
    # Unlike keys that are lots are unlike lots: if there are as many of them as lots, each lot is there.
    if not isinstance(thing, dict) or len(thing) != len(lots):
        return False
    return all([are_lost_tells(history, lot) and is_misfit(with_taken(history, lot), thing[lot]) for lot in thing])
