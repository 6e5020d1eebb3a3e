"""Rows of bells, and the changes that lead from row to row."""

from rungonce.basics import are_indices, is_integer, undone_steps
from rungonce.errors import InvalidBells, InvalidChange, InvalidRow

MOST_ROWS = 720


def could_be_bells(value):
    """Tell whether any value is a number of bells: an integer from 2 to 6."""
    return is_integer(value) and 2 <= value <= 6


def check_bells(bells):
    """Raise InvalidBells if bells are not an integer from 2 to 6."""
    if not could_be_bells(bells):
        raise InvalidBells("bells must be an integer from 2 to 6")


def check_any_row(row):
    """Raise InvalidRow if this is not a row."""
    if not is_row(row):
        raise InvalidRow("this is not a row")


def check_row(bells, row):
    """Raise InvalidRow if this is not a row of so many bells."""
    if not is_row(row) or len(row) != bells:
        raise InvalidRow("this is not a row of so many bells")


def check_change(bells, change):
    """Raise InvalidChange if this is not a change of so many bells."""
    if not could_change(bells, change):
        raise InvalidChange("this is not a change of so many bells")


def rounds_of(bells):
    """Return the ascending row of so many bells."""
    return tuple(range(bells))


def could_change(bells, value):
    """Tell whether any value is a change of so many bells, which are not checked."""
    if not are_indices(value, bells - 1):
        return False
    return all([low + 1 < high for low, high in zip(value, value[1:])])


def all_changes(bells):
    """Return the ascending list of all changes of so many bells, which are not checked."""
    changes = [()]
    for place in range(bells - 1):
        changes = changes + [change + (place,) for change in changes if could_change(bells, change + (place,))]
    return sorted(changes)


def changed_row(row, change):
    """Return the row behind a change; neither is checked."""
    behind = list(row)
    for place in change:
        behind[place], behind[place + 1] = behind[place + 1], behind[place]
    return tuple(behind)


def joint_row(row, other):
    """Return the row followed by the other; neither is checked."""
    return tuple([row[place] for place in other])


def least_roads(start, steps, goal, most):
    """Return a dict with the least tuples of indices of steps that lead from a start, by the rows they lead to.

    A step leads a row to this row followed by the step. The least tuple is the shortest, then the first
    in Python's order. The dict has all rows that can be come to or, if the goal is one of them, at least
    all that are no farther than the goal is, or else more rows than so many.
    """
    roads = {start: ()}
    last = [start]
    while last and goal not in roads and len(roads) <= most:
        further = []
        for row in last:
            for index, step in enumerate(steps):
                behind = joint_row(row, step)
                if behind not in roads:
                    roads[behind] = roads[row] + (index,)
                    further.append(behind)
        last = further
    return roads


def is_row(value):
    """Tell whether any value is a row of 2 to 6 bells."""
    if not isinstance(value, tuple) or not 2 <= len(value) <= 6:
        return False
    return are_indices(value, len(value)) and sorted(value) == list(range(len(value)))


def is_change(bells, value):
    """Tell whether any value is a change of so many bells."""
    check_bells(bells)
    return could_change(bells, value)


def changes_of(bells):
    """Return the ascending list of all changes of so many bells."""
    check_bells(bells)
    return all_changes(bells)


def behind_change(row, change):
    """Return the row behind a change."""
    check_any_row(row)
    check_change(len(row), change)
    return changed_row(row, change)


def followed_by(row, other):
    """Return the row followed by the other."""
    check_any_row(row)
    check_row(len(row), other)
    return joint_row(row, other)


def row_undone(row):
    """Return the row by which this one is followed to make rounds."""
    check_any_row(row)
    return tuple(undone_steps(row))
