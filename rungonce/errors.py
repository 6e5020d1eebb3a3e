"""The errors of this package."""


class OnceError(ValueError):
    """The base class of all errors of this package."""


class InvalidBells(OnceError):
    """Bells are not an integer from 2 to 6."""


class InvalidRow(OnceError):
    """A row is not one, or not one of so many bells."""


class InvalidChange(OnceError):
    """A change is not one of so many bells."""


class InvalidLead(OnceError):
    """A lead is not one of so many bells."""


class InvalidWays(OnceError):
    """Ways are not ways of so many bells."""


class InvalidTable(OnceError):
    """A table is not one."""


class InvalidChoice(OnceError):
    """A choice is not one for the table."""


class InvalidCalls(OnceError):
    """Calls are not the calls of a method."""


class InvalidComposition(OnceError):
    """A composition is not one of the method."""


class NotOne(OnceError):
    """A choice is not one to one."""


class TooMany(OnceError):
    """There are more than the limit."""

    def __init__(self, limit):
        super().__init__(f"more than {limit}")
        self.limit = limit


class InvalidPlaces(OnceError):
    """Places are not an ascending tuple of places."""


class InvalidNumber(OnceError):
    """A number is not one that there is."""


class InvalidText(OnceError):
    """A text is not that of a lead; no such text goes on with the sign at this index."""

    def __init__(self, at):
        super().__init__(f"no text of a lead goes on at {at}")
        self.at = at


class InvalidWay(OnceError):
    """A way is not an index of a way."""


class InvalidNumbers(OnceError):
    """Numbers are not an ascending tuple of numbers of the table."""


class NotTwo(OnceError):
    """A table has another number of ways than two."""


class InvalidTold(OnceError):
    """Told ways are not told ways of the table."""


class InvalidIndex(OnceError):
    """An index is not one that there is."""


class InvalidLeading(OnceError):
    """A leading is not one of the table."""


class InvalidSheet(OnceError):
    """A sheet is not one, or not one of the kind that is asked for."""


class InvalidLot(OnceError):
    """A lot is not one."""


class InvalidStand(OnceError):
    """A stand is not one of the sheet."""


class NotPaired(OnceError):
    """A table is not paired."""


class NotOneBlock(OnceError):
    """A lot is not a one-block lot."""


class InvalidPair(OnceError):
    """Two indices of ways are not unlike indices."""


class InvalidCourse(OnceError):
    """A course is not one of the ways."""


class UnlikeEnds(OnceError):
    """Two ways do not act by the same row."""


class InvalidMany(OnceError):
    """How many there are is not an integer within its bounds."""


class InvalidPaths(OnceError):
    """Paths are not paths of so many bells and changes."""


class InvalidBell(OnceError):
    """A bell is not one of so many."""


class InvalidRenaming(OnceError):
    """A renaming is not one of so many bells."""


class InvalidSlips(OnceError):
    """Slips are not slips of the lead."""


class InvalidLeads(OnceError):
    """Leads are not unlike leads of as many changes each."""


class InvalidRows(OnceError):
    """Rows are not rows of so many bells, one for each change."""


class InvalidHeard(OnceError):
    """What is heard is not told by bells, each once at most."""


class InvalidTour(OnceError):
    """A tour is not one."""


class InvalidPairs(OnceError):
    """Pairs are not pairs of a place and a call."""


class NothingToUndo(OnceError):
    """No lead is left that could be taken back."""


class NothingToRedo(OnceError):
    """No lead is left that could be rung again."""
