"""Rings of rows, and how many leads lead home."""

from math import lcm

from rungonce.basics import cycles_of
from rungonce.leads import check_bells_and_lead, rows_behind
from rungonce.rows import check_any_row, rounds_of


def rings_of(row):
    """Return the ascending list of the rings of a row."""
    check_any_row(row)
    return cycles_of(row)


def leads_home(bells, lead):
    """Return the least number of leads, one or more, that lead rounds to rounds."""
    check_bells_and_lead(bells, lead)
    home = 1
    for ring in cycles_of(rows_behind(rounds_of(bells), lead)[-1]):
        home = lcm(home, len(ring))
    return home
