"""Calls of a sound history taken away one by one, each while it is not barred by those that are left.

A BAR is a tuple (index, lot): the call is barred by each lot that has all members of this one. All that bars the calls
of a history are bars; but for those with the lot (), they are claims. Lots that change often are told as MASKS,
integers whose bits are set at the places of their members; a TABLE has, for each call, the masks of the lots of its
bars.
"""

from freshtold.books import is_sound, must_be_sound
from freshtold.calls import behind_of
from freshtold.reasons import reasons


def is_barred(history, index, lot):
    """Tell whether a call is barred by a lot, in which it may be or not."""
    must_be_sound(history)
    return is_held(table_of(history), index, mask_of(lot))


def may_go(history, lot):
    """Return the lot of the members of a lot that are not barred by it."""
    must_be_sound(history)
    table, mask = table_of(history), mask_of(lot)
    return tuple([index for index in lot if not is_held(table, index, mask)])


def peeled(history, lot):
    """Return (gone, rest): the members of a lot that go, always the greatest that may, and the lot of the others."""
    must_be_sound(history)
    gone, rest = taken_away(table_of(history), mask_of(lot), 0)
    return (gone, lot_of(rest))


def weaving_of(history):
    """Return the weaving that comes of peeling all calls, or None if some are left."""
    must_be_sound(history)
    gone, rest = taken_away(table_of(history), all_of(len(history[1])), 0)
    return gone[::-1] if rest == 0 else None


def fits(history):
    """Tell whether a history, sound or not, fits."""
    return is_sound(history) and weaving_of(history) is not None


def bars_by_stretches(history):
    """Return the list of the bars of calls that are ahead of others."""
    return [(index, (other,)) for index in range(len(history[1])) for other in behind_of(history, index)]


def bars_by_answers(history):
    """Return the list that has for each call the list of the bars that come of its answer."""
    return [_bars_by_answer(index, history[1][index][3], lot) for index, lot in enumerate(reasons(history))]


def bars_of(history):
    """Return the list of all bars of a sound history."""
    return bars_by_stretches(history) + [bar for bars in bars_by_answers(history) for bar in bars]


def table_of(history):
    """Return the table of a sound history."""
    return table_by(len(history[1]), bars_of(history))


def table_by(many, bars):
    """Return the table of the bars of so many calls."""
    table = [[] for _ in range(many)]
    for index, lot in bars:
        table[index].append(mask_of(lot))
    return table


def mask_of(lot):
    """Return the mask of a lot."""
    return sum([1 << index for index in lot])


def all_of(many):
    """Return the mask of the lot of so many calls."""
    return (1 << many) - 1


def lot_of(mask):
    """Return the lot of a mask."""
    return tuple([index for index in range(mask.bit_length()) if has_member(mask, index)])


def has_member(mask, index):
    """Tell whether the lot of a mask has a call."""
    return mask >> index & 1 == 1


def is_held(table, index, mask):
    """Tell whether a call is barred by the lot of a mask."""
    for bar in table[index]:
        if bar & mask == bar:
            return True
    return False


def taken_away(table, mask, kept):
    """Return (gone, rest): the calls taken away from a mask, in their order, and the mask of those that are left.

    It is always the greatest one that is not barred by what is left, and not in kept, another mask.
    """
    gone, rest = [], mask
    index = _greatest_free(table, rest, kept)
    while index is not None:
        gone.append(index)
        rest = rest - (1 << index)
        index = _greatest_free(table, rest, kept)
    return (tuple(gone), rest)


def _bars_by_answer(index, answer, lot):
    """Return the list of the bars that come of the answer of a call; lot is that of its sum's reason, or None."""
    if lot is None or answer == "new":
        return []
    if answer == "open":
        return [(index, lot)]
    return [(other, (index,)) for other in lot]


def _greatest_free(table, mask, kept):
    """Return the greatest call of a mask, none of those kept, that is not barred by it, or None."""
    for index in lot_of(mask)[::-1]:
        if not has_member(kept, index) and not is_held(table, index, mask):
            return index
    return None
