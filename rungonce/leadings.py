"""Choices that lead each number to where it is told."""

from rungonce.basics import are_indices
from rungonce.choices import check_table
from rungonce.errors import InvalidLeading


def check_leading(table, leading):
    """Raise InvalidLeading if this is not a leading of the table."""
    if not are_indices(leading, len(table)) or sorted(leading) != list(range(len(table))):
        raise InvalidLeading("this is not a leading of the table")


def ways_leading(table, leading):
    """Return, for each number, the ascending list of the ways that lead so; nothing is checked."""
    return [[way for way, end in enumerate(item) if end == told] for item, told in zip(table, leading)]


def choice_for(table, leading):
    """Return the least choice that leads so, in Python's order, or None."""
    check_table(table)
    check_leading(table, leading)
    found = ways_leading(table, leading)
    return tuple([ways[0] for ways in found]) if all(found) else None


def first_without(table, leading):
    """Return the first number that no way leads so, or None."""
    check_table(table)
    check_leading(table, leading)
    found = ways_leading(table, leading)
    return None if all(found) else found.index([])


def count_for(table, leading):
    """Return how many choices lead so."""
    check_table(table)
    check_leading(table, leading)
    count = 1
    for ways in ways_leading(table, leading):
        count = count * len(ways)
    return count
