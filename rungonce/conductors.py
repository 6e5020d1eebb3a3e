"""Conductors, who lead a composition on lead by lead, take it back, and ring it anew."""

from rungonce.basics import is_index
from rungonce.compositions import MOST_LEADS, are_round, check_method, first_twice, method_ways, rows_composed
from rungonce.errors import InvalidWay, NothingToRedo, NothingToUndo, TooMany
from rungonce.leadcourses import course_heads
from rungonce.leads import rows_behind


class Conductor:
    """A tour that is led on by calls; leads are taken back, and rung again."""

    def __init__(self, bells, lead, calls):
        check_method(bells, lead, calls)
        self._method = (bells, lead, calls)
        self._rung = ()
        # What was taken back since the last call, the last one behind.
        self._undone = ()

    def __eq__(self, other):
        """Tell whether the other is a conductor whose tour is the same."""
        return isinstance(other, Conductor) and self._method == other._method and self._rung == other._rung

    def __len__(self):
        """Return the number of leads."""
        return len(self._rung)

    def __bool__(self):
        """Tell whether the tour comes round truly."""
        bells, lead, calls = self._method
        rows = rows_composed(bells, lead, calls, self._rung)
        return bool(are_round(bells, rows) and first_twice(bells, rows) is None)

    @property
    def tour(self):
        """The tour: the bells, the lead, the calls and the composition."""
        return self._method + (self._rung,)

    @property
    def head(self):
        """The last head."""
        bells, lead, calls = self._method
        return course_heads(bells, method_ways(lead, calls), self._rung)[-1]

    @property
    def fault(self):
        """The place of the first row that came already, and the place where it came, as a pair, or None."""
        bells, lead, calls = self._method
        return first_twice(bells, rows_composed(bells, lead, calls, self._rung))

    def call(self, way):
        """Ring one lead more, by a way, and return the list of its rows."""
        ways = method_ways(self._method[1], self._method[2])
        if not is_index(way, len(ways)):
            raise InvalidWay("this is not an index of a way")
        if len(self._rung) >= MOST_LEADS:
            raise TooMany(MOST_LEADS)
        rows = rows_behind(self.head, ways[way])
        self._rung = self._rung + (way,)
        self._undone = ()
        return rows

    def undo(self):
        """Take back the last lead that is not taken back yet."""
        if self._rung == ():
            raise NothingToUndo("no lead is left that could be taken back")
        self._undone = self._undone + self._rung[-1:]
        self._rung = self._rung[:-1]

    def redo(self):
        """Ring again the last lead taken back, if none was called since."""
        if self._undone == ():
            raise NothingToRedo("no lead is left that could be rung again")
        self._rung = self._rung + self._undone[-1:]
        self._undone = self._undone[:-1]

    def attempt(self, action):
        """Call a function with the conductor, and return what it returns; if it ends with an error, change nothing."""
        rung, undone = self._rung, self._undone
        ended = None
        try:
            told = action(self)
            ended = True
        finally:
            if ended is None:
                self._rung, self._undone = rung, undone
        return told
