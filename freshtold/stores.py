"""The store of a house: independent rows, told one behind the other."""

from freshtold.errors import Wrong
from freshtold.forms import is_house, is_row, is_sum, is_world
from freshtold.sums import comes_to, given_by


class Store:
    """A store of a house; it changes only by a tell that is answered "new"."""

    def __init__(self, house):
        if not is_house(house):
            raise Wrong(0)
        self._house = house
        self._rows = ()

    def __eq__(self, other):
        return isinstance(other, Store) and self._house == other._house and self._rows == other._rows

    def tell(self, one, number):
        """Tell the store a row, and return the answer."""
        if not is_sum(self._house, one):
            raise Wrong(0)
        if not is_row(self._house, (one, number)):
            raise Wrong(1)
        given = given_by(self._house, self._rows, one)
        if given is None:
            self._rows = self._rows + ((one, number),)
            return "new"
        return "known" if given[0] == number else "clash"

    def ask(self, one):
        """Return the number that the store gives a sum, or "open"."""
        if not is_sum(self._house, one):
            raise Wrong(0)
        given = given_by(self._house, self._rows, one)
        return "open" if given is None else given[0]

    def rows(self):
        """Return the rows of the store, in the order in which they came."""
        return self._rows

    def reason(self, one):
        """Return the dict from places of rows to their numbers, without 0s, in what makes a sum, or None."""
        given = given_by(self._house, self._rows, one)
        if given is None:
            return None
        return {place: number for place, number in enumerate(given[1]) if number != 0}

    def can_hold(self, world):
        """Tell whether a value is a world in which all rows of the store hold."""
        if not is_world(self._house, world):
            return False
        return all([comes_to(self._house, world, one) == number for one, number in self._rows])

    def twin(self):
        """Return a store with the same rows that goes its own way from here."""
        other = Store(self._house)
        other._rows = self._rows
        return other
