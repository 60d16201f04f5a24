"""Sums, rows and worlds of a house, all counted modulo its prime.

What asks which rows make which others is done by elimination. It works on LINES: the line of a row has its factors,
behind them its number, behind them a number for each of the rows that are looked at: the combination that makes it.
"""


def empty_sum(house):
    """Return the sum that has only 0s."""
    return (0,) * house[1]


def added(house, one, other):
    """Return two sums added."""
    return tuple([(left + right) % house[0] for left, right in zip(one, other)])


def times(house, number, one):
    """Return a sum multiplied by a number."""
    return tuple([number * factor % house[0] for factor in one])


def comes_to(house, world, one):
    """Return the number that a sum comes to in a world."""
    return sum([factor * number for factor, number in zip(one, world)]) % house[0]


def made_by(house, rows, numbers):
    """Return the row that a combination of rows makes."""
    made, total = empty_sum(house), 0
    for (one, worth), number in zip(rows, numbers):
        made = added(house, made, times(house, number, one))
        total = (total + number * worth) % house[0]
    return (made, total)


def are_independent(house, rows):
    """Tell whether only the combination of 0s makes a row with the empty sum."""
    return dependence(house, rows) is None


def dependence(house, rows):
    """Return a combination, not all 0, that makes a row with the empty sum, or None."""
    _, spent = _sifted(house, rows)
    if not spent:
        return None
    return _combination(house, spent[0])


def given_by(house, rows, one):
    """Return (number, numbers): what independent rows give a sum, and the combination that makes it, or None."""
    leads, _ = _sifted(house, rows)
    line = _cleared(house, one + (0,) * (1 + len(rows)), leads)
    if line[:house[1]] != empty_sum(house):
        return None
    # The line has become what is left of the sum less the rows that make it, so they stand in it negated.
    turned = times(house, house[0] - 1, line[house[1]:])
    return (turned[0], turned[1:])


def parting_of(house, rows, one):
    """Return numbers for the unknowns in which the sums of all rows come to 0, but the given one does not, or None."""
    # If the sum can come to any number but 0, it can come to 1: multiply all by the inverse.
    quiet = tuple([(row[0], 0) for row in rows])
    return world_of(house, quiet + ((one, 1),))


def world_of(house, rows):
    """Return a world in which all rows hold, or None."""
    leads, spent = _sifted(house, rows)
    if any([line[house[1]] != 0 for line in spent]):
        return None
    # No line has a factor at the lead of another one: if all unknowns without a line are 0, each is its line's number.
    return tuple([leads[place][house[1]] if place in leads else 0 for place in range(house[1])])


def strife_of(house, rows):
    """Return a combination that makes a row with the empty sum and another number than 0, or None."""
    _, spent = _sifted(house, rows)
    for line in spent:
        if line[house[1]] != 0:
            return _combination(house, line)
    return None


def _combination(house, line):
    """Return the combination of the rows that makes a line."""
    return line[house[1] + 1:]


def _line_of(rows, place):
    """Return the line of the row at a place, which is made of this row alone."""
    one, number = rows[place]
    return one + (number,) + tuple([1 if other == place else 0 for other in range(len(rows))])


def _lead_of(house, line):
    """Return the place of the first factor of a line that is not 0, or None."""
    for place in range(house[1]):
        if line[place] != 0:
            return place
    return None


def _inverse(house, number):
    """Return the number that comes to 1 if it is multiplied by this one, which is not 0."""
    return [other for other in range(1, house[0]) if number * other % house[0] == 1][0]


def _less(house, line, number, other):
    """Return a line less a number times another line."""
    return tuple([(left - number * right) % house[0] for left, right in zip(line, other)])


def _cleared(house, line, leads):
    """Return a line less what makes its factor 0 at each of the leads."""
    for lead in leads:
        line = _less(house, line, line[lead], leads[lead])
    return line


def _sifted(house, rows):
    """Return (leads, spent).

    leads is a dict from places to lines, each with the factor 1 at its own place and 0 at the places of all others;
    spent is the list of the lines that came to the empty sum, one for each row that those before it make.
    """
    leads, spent = {}, []
    for place in range(len(rows)):
        line = _cleared(house, _line_of(rows, place), leads)
        lead = _lead_of(house, line)
        if lead is None:
            spent.append(line)
        else:
            line = times(house, _inverse(house, line[lead]), line)
            leads = {other: _less(house, leads[other], leads[other][lead], line) for other in leads}
            leads[lead] = line
    return (leads, spent)
