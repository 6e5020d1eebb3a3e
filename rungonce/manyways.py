"""One to one choices of any ways, with told ones, and the lots that have too few numbers to go to."""

from rungonce.basics import are_ascending
from rungonce.choices import check_table
from rungonce.errors import TooMany
from rungonce.matchings import held_or_few
from rungonce.pieces import count_piece
from rungonce.twoways import check_told

MOST_MATCHED = 60
MOST_COUNTED = 8


def check_table_and_told(table, told, limit):
    """Raise the first error that applies to a table, told ways, and a limit of how many numbers there may be."""
    check_table(table)
    check_told(table, told)
    if len(table) > limit:
        raise TooMany(limit)


def ends_with(table, told):
    """Return, for each number, the tuple of those to which its told way, or any way, leads it; nothing is checked."""
    ways = {number: way for number, way in told}
    return [(item[ways[number]],) if number in ways else item for number, item in enumerate(table)]


def choice_with(table, told):
    """Return any one to one choice that has told ways, or None."""
    check_table_and_told(table, told, MOST_MATCHED)
    held, few = held_or_few(ends_with(table, told))
    if few is not None:
        return None
    # Of ways that lead alike it must be the told one.
    ways = {number: way for number, way in told}
    return tuple([ways.get(number, item.index(held[number])) for number, item in enumerate(table)])


def lot_with_few(table, told):
    """Return any lot that has too few, with told ways, or None."""
    check_table_and_told(table, told, MOST_MATCHED)
    return held_or_few(ends_with(table, told))[1]


def is_lot_with_few(table, told, value):
    """Tell whether any value is a lot that has too few, with told ways."""
    check_table_and_told(table, told, MOST_MATCHED)
    if not are_ascending(value, len(table)):
        return False
    ends = ends_with(table, told)
    return len(set([end for number in value for end in ends[number]])) < len(value)


def count_choices(table, told):
    """Return how many one to one choices have told ways."""
    check_table_and_told(table, told, MOST_COUNTED)
    return count_piece(ends_with(table, told), list(range(len(table))))
