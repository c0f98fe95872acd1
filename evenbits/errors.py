"""The errors of the package."""


class EvenError(ValueError):
    """What every error of the package is."""


class InvalidPlan(EvenError):
    """Bounds that make no plan."""


class InvalidRow(EvenError):
    """A list that is not the row that is asked for."""


class InvalidTime(EvenError):
    """A time, or a list of times, beyond what is asked for."""


class InvalidSide(EvenError):
    """A side that is neither "low" nor "high"."""


class InvalidNumber(EvenError):
    """Any other integer beyond what is asked for."""


class InvalidPrice(EvenError):
    """An object that is no price."""


class InvalidNeeds(EvenError):
    """An object that is no list of sizes of frames."""


class InvalidStreams(EvenError):
    """An object that is no list of streams."""


class InvalidIndex(EvenError):
    """An index that no best row has."""


class NothingToUndo(EvenError):
    """There is nothing that could be undone."""


class NoRow(EvenError):
    """A plan has no row: its bounds at the times first and last contradict each other."""

    def __init__(self, first, last):
        super().__init__(f"no row fits the bounds at the times {first} and {last}")
        self.first = first
        self.last = last


class InvalidText(EvenError):
    """A text that cannot be read: place is the number of the first word that cannot stand there."""

    def __init__(self, place):
        super().__init__(f"the text cannot be read at word {place}")
        self.place = place
