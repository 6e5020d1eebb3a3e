"""Roads of changes from one row to another one."""

from rungonce.rows import MOST_ROWS, all_changes, changed_row, check_any_row, check_row, least_roads, rounds_of


def change_between(row, other):
    """Return the change that leads a row to another one, or None."""
    check_any_row(row)
    check_row(len(row), other)
    change = tuple([place for place in range(len(row) - 1)
                    if (row[place], row[place + 1]) == (other[place + 1], other[place])])
    return change if changed_row(row, change) == other else None


def least_road(row, other):
    """Return the least road from a row to another one: the shortest, then the first in Python's order."""
    check_any_row(row)
    check_row(len(row), other)
    changes = all_changes(len(row))
    # A change leads each row to this row followed by the one to which the change leads rounds.
    steps = [changed_row(rounds_of(len(row)), change) for change in changes]
    roads = least_roads(row, steps, other, MOST_ROWS)
    return tuple([changes[index] for index in roads[other]])
