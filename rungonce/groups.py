"""Ways, the groups of the rows to which they lead from rounds, and the tables of ways."""

from rungonce.errors import InvalidRow, InvalidWays
from rungonce.leads import could_lead, rows_behind
from rungonce.rows import MOST_ROWS, check_bells, check_row, joint_row, least_roads, rounds_of

MOST_WAYS = 6


def could_be_ways(bells, value):
    """Tell whether any value is ways of so many bells, which are not checked."""
    if not isinstance(value, tuple) or not 1 <= len(value) <= MOST_WAYS:
        return False
    return all([could_lead(bells, lead) for lead in value])


def check_ways(bells, ways):
    """Raise InvalidWays if these are not ways of so many bells."""
    if not could_be_ways(bells, ways):
        raise InvalidWays("these are not ways of so many bells")


def check_bells_and_ways(bells, ways):
    """Raise the first error that applies to the bells and to ways of so many."""
    check_bells(bells)
    check_ways(bells, ways)


def acting_rows(bells, ways):
    """Return the list of the rows by which ways act; nothing is checked."""
    return [rows_behind(rounds_of(bells), lead)[-1] for lead in ways]


def roads_by(bells, ways, goal):
    """Return a dict with the least tuples of indices of ways that lead from rounds to rows, as far as to a goal."""
    return least_roads(rounds_of(bells), acting_rows(bells, ways), goal, MOST_ROWS)


def group_rows(bells, ways):
    """Return the ascending list of the rows of the group of ways; nothing is checked."""
    return sorted(roads_by(bells, ways, None))


def are_ways(bells, value):
    """Tell whether any value is ways of so many bells."""
    check_bells(bells)
    return could_be_ways(bells, value)


def group_of(bells, ways):
    """Return the group of ways: the ascending tuple of all rows to which they lead from rounds."""
    check_bells_and_ways(bells, ways)
    return tuple(group_rows(bells, ways))


def number_of(bells, ways, row):
    """Return the number of a row in the group of ways, or None."""
    check_bells_and_ways(bells, ways)
    check_row(bells, row)
    rows = group_rows(bells, ways)
    return rows.index(row) if row in rows else None


def table_of(bells, ways):
    """Return the table of ways."""
    check_bells_and_ways(bells, ways)
    steps = acting_rows(bells, ways)
    rows = group_rows(bells, ways)
    numbers = {row: number for number, row in enumerate(rows)}
    return tuple([tuple([numbers[joint_row(row, step)] for step in steps]) for row in rows])


def ways_to(bells, ways, row):
    """Return the least tuple of indices of ways that lead, one behind the other, from rounds to a row."""
    check_bells_and_ways(bells, ways)
    check_row(bells, row)
    roads = roads_by(bells, ways, row)
    if row not in roads:
        raise InvalidRow("this is not a row of the group")
    return roads[row]
