"""Methods, and the compositions that are rung by them."""

from rungonce.basics import are_indices
from rungonce.errors import InvalidCalls, InvalidComposition
from rungonce.leads import check_lead, rows_behind
from rungonce.rows import check_bells, could_change, rounds_of

MOST_CALLS = 5
MOST_LEADS = 40


def could_call(bells, value):
    """Tell whether any value is the calls of a method of so many bells, which are not checked."""
    if not isinstance(value, tuple) or len(value) > MOST_CALLS:
        return False
    return all([could_change(bells, call) for call in value])


def could_compose(calls, value):
    """Tell whether any value is a composition of a method with such calls, which are not checked."""
    return are_indices(value, len(calls) + 1) and len(value) <= MOST_LEADS


def check_calls(bells, calls):
    """Raise InvalidCalls if these are not the calls of a method of so many bells."""
    if not could_call(bells, calls):
        raise InvalidCalls("calls must be a tuple of at most 5 changes of so many bells")


def check_method(bells, lead, calls):
    """Raise the first error that applies to the bells, the lead and the calls of a method."""
    check_bells(bells)
    check_lead(bells, lead)
    check_calls(bells, calls)


def check_composition(calls, composition):
    """Raise InvalidComposition if this is not a composition of a method with such calls."""
    if not could_compose(calls, composition):
        raise InvalidComposition("this is not a composition of the method")


def method_ways(lead, calls):
    """Return the tuple of the ways of a method; nothing is checked."""
    return (lead,) + tuple([lead[:-1] + (call,) for call in calls])


def rows_composed(bells, lead, calls, composition):
    """Return the list of the rows that a composition rings; nothing is checked."""
    ways = method_ways(lead, calls)
    row = rounds_of(bells)
    rows = []
    for way in composition:
        rows.extend(rows_behind(row, ways[way]))
        row = rows[-1]
    return rows


def are_round(bells, rows):
    """Tell whether some row is rung, and the last one is rounds."""
    return len(rows) > 0 and rows[-1] == rounds_of(bells)


def first_twice(bells, rows):
    """Return the pair of the first place of a row that came already, and of the place where it came, or None.

    Rounds stand ahead of all, at the place -1; they may come again as the last row.
    """
    places = {rounds_of(bells): -1}
    for place, row in enumerate(rows):
        if row not in places:
            places[row] = place
        elif places[row] != -1 or place != len(rows) - 1:
            return place, places[row]
    return None


def ways_by(bells, lead, calls):
    """Return the tuple of the ways of a method."""
    check_method(bells, lead, calls)
    return method_ways(lead, calls)


def rung_by(bells, lead, calls, composition):
    """Return the list of the rows that a composition rings."""
    check_method(bells, lead, calls)
    check_composition(calls, composition)
    return rows_composed(bells, lead, calls, composition)


def comes_round(bells, lead, calls, composition):
    """Tell whether a composition comes round."""
    check_method(bells, lead, calls)
    check_composition(calls, composition)
    return are_round(bells, rows_composed(bells, lead, calls, composition))


def twice_rung(bells, lead, calls, composition):
    """Return the pair of the first place of a row that came already, and of the place where it came, or None.

    The place of rounds ahead of all is -1.
    """
    check_method(bells, lead, calls)
    check_composition(calls, composition)
    return first_twice(bells, rows_composed(bells, lead, calls, composition))
