"""The errors of the package. Each one keeps what it is made from, the very objects, under the names given here."""


class StoreError(ValueError):
    """What all errors of the package are; it is raised nowhere itself."""


class Wrong(StoreError):
    """The argument of a call at this place, counted from 0, is not as described."""

    def __init__(self, place):
        self.place = place


class NoText(StoreError):
    """The line of a text with this index shows nothing that may stand there."""

    def __init__(self, line):
        self.line = line


class NotAtPeace(StoreError):
    """The told rows of a plan hold in no world; the paper is a combination of them that shows it."""

    def __init__(self, paper):
        self.paper = paper


class NotIndependent(StoreError):
    """The new rows of a history are not independent; the factors make a row with the empty sum of them."""

    def __init__(self, factors):
        self.factors = factors


class NotSound(StoreError):
    """A history is not sound; the paper shows why."""

    def __init__(self, paper):
        self.paper = paper


class NoFit(StoreError):
    """A history does not fit; the paper shows why."""

    def __init__(self, paper):
        self.paper = paper


class TooMany(StoreError):
    """There is more of something than is allowed at most."""

    def __init__(self, most):
        self.most = most


class NoCall(StoreError):
    """This is no index of a call that is under way."""

    def __init__(self, index):
        self.index = index


class NoAnswer(StoreError):
    """This is no answer that the call can have."""

    def __init__(self, answer):
        self.answer = answer


class NoCommand(StoreError):
    """A line is no command."""
