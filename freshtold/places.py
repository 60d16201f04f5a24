"""Where something begins to be so."""


def first_place(many, is_so):
    """Return the least place below many at which is_so, a function of a place, is so; many if it is so at none.

    If it is so at a place, it is so at all behind it: so half of those that come into question go at each step.
    """
    low, high = 0, many
    while low < high:
        middle = (low + high) // 2
        if is_so(middle):
            high = middle
        else:
            low = middle + 1
    return low
