"""A watch over calls that begin and end one by one, while nobody knows yet how all of them will come out."""

from freshtold.errors import NoAnswer, NoCall, NoFit, TooMany, Wrong
from freshtold.fillings import lost_tells, with_taken
from freshtold.forms import is_call, is_deed, is_house, is_integer
from freshtold.losttells import fits_somehow, loss_paper, lots_taken
from freshtold.moments import known_at
from freshtold.places import first_place

MOST_CALLS = 24
MOST_TELLS = 6


class Watch:
    """A watch over the calls of a house; it keeps the events, tuples of their names and of what was told by them."""

    def __init__(self, house):
        if not is_house(house):
            raise Wrong(0)
        self._house = house
        self._events = ()

    def __eq__(self, other):
        return isinstance(other, Watch) and self._house == other._house and self._events == other._events

    def begin(self, deed):
        """Let a call with a deed begin, and return its index."""
        if not is_deed(self._house, deed):
            raise Wrong(0)
        history = self.history()
        if len(history[1]) >= MOST_CALLS:
            raise TooMany(MOST_CALLS)
        if deed[0] == "tell" and len(lost_tells(history)) >= MOST_TELLS:
            raise TooMany(MOST_TELLS)
        self._events = self._events + (("begin", deed),)
        return len(history[1])

    def finish(self, index, answer):
        """End a call that is under way, with an answer, or None for an ask that is unheard."""
        self._must_be_under_way(index)
        deed = self.history()[1][index][0]
        if not is_call(self._house, (deed, 0, 0, answer)):
            raise NoAnswer(answer)
        self._events = self._events + (("finish", index, answer),)

    def lose(self, index):
        """Make a call that is under way a lost one."""
        self._must_be_under_way(index)
        self._events = self._events + (("lose", index),)

    def history(self):
        """Return the history of all calls, in the order in which they began."""
        return _history_of(self._house, self._events)

    def under_way(self):
        """Return the lot of the calls that are under way."""
        over = [event[1] for event in self._events if event[0] != "begin"]
        return tuple([index for index in range(len(self.history()[1])) if index not in over])

    def events(self):
        """Return how many events there were."""
        return len(self._events)

    def still_fits(self):
        """Tell whether there is a filling of the history."""
        return fits_somehow(self.history())

    def wrong_since(self):
        """Return the number of the first event behind which there was no filling, or None."""
        house, events = self._house, self._events
        # Once there is none, there is none behind any later event.
        place = first_place(len(events), lambda at: not fits_somehow(_history_of(house, events[:at + 1])))
        return None if place == len(events) else place

    def known_now(self, asked):
        """Return "given" or "open" if a sum is given now, or not, whatever lost tells were taken, else "either"."""
        history, moment = self.history(), self.events()
        lots = lots_taken(history)
        if lots == []:
            raise NoFit(loss_paper(history))
        kinds = [known_at(with_taken(history, lot), moment, asked) for lot in lots]
        return kinds[0] if all([kind == kinds[0] for kind in kinds]) else "either"

    def twin(self):
        """Return a watch in the same state that goes its own way from here."""
        other = Watch(self._house)
        other._events = self._events
        return other

    def _must_be_under_way(self, index):
        """Raise NoCall if a value is no index of a call that is under way."""
        if not is_integer(index) or index not in self.under_way():
            raise NoCall(index)


def _history_of(house, events):
    """Return the history of some events, from the first one on."""
    calls = []
    for moment, event in enumerate(events):
        if event[0] == "begin":
            calls.append((event[1], moment, None, None))
        elif event[0] == "finish":
            calls[event[1]] = calls[event[1]][:2] + (moment, event[2])
    return (house, tuple(calls))
