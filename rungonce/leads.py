"""Leads: changes that are rung one behind the other."""

from rungonce.errors import InvalidLead
from rungonce.rows import changed_row, check_any_row, check_bells, could_change, rounds_of

MOST_CHANGES = 24


def could_lead(bells, value):
    """Tell whether any value is a lead of so many bells, which are not checked."""
    if not isinstance(value, tuple) or not 1 <= len(value) <= MOST_CHANGES:
        return False
    return all([could_change(bells, change) for change in value])


def check_lead(bells, lead):
    """Raise InvalidLead if this is not a lead of so many bells."""
    if not could_lead(bells, lead):
        raise InvalidLead("this is not a lead of so many bells")


def check_bells_and_lead(bells, lead):
    """Raise the first error that applies to the bells and to a lead of so many."""
    check_bells(bells)
    check_lead(bells, lead)


def rows_behind(row, lead):
    """Return the list of the rows that a lead rings from a row; neither is checked."""
    rows = []
    for change in lead:
        row = changed_row(row, change)
        rows.append(row)
    return rows


def is_lead(bells, value):
    """Tell whether any value is a lead of so many bells."""
    check_bells(bells)
    return could_lead(bells, value)


def rows_rung(row, lead):
    """Return the list of the rows that a lead rings from a row."""
    check_any_row(row)
    check_lead(len(row), lead)
    return rows_behind(row, lead)


def led_to(row, lead):
    """Return the row to which a lead leads a row."""
    check_any_row(row)
    check_lead(len(row), lead)
    return rows_behind(row, lead)[-1]


def acting_row(bells, lead):
    """Return the row by which a lead acts: that to which it leads rounds."""
    check_bells_and_lead(bells, lead)
    return rows_behind(rounds_of(bells), lead)[-1]
