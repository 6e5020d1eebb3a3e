"""Tables, the choices of a way for each of their numbers, and the blocks of these."""

from rungonce.basics import are_indices, cycles_of
from rungonce.errors import InvalidChoice, InvalidTable, NotOne

MOST_ITEMS = 720
MOST_WAYS_OF_TABLE = 6


def check_table(table):
    """Raise InvalidTable if this is not a table."""
    if not is_table(table):
        raise InvalidTable("this is not a table")


def could_choose(table, value):
    """Tell whether any value is a choice for a table, which is not checked."""
    return are_indices(value, len(table[0])) and len(value) == len(table)


def check_choice(table, choice):
    """Raise InvalidChoice if this is not a choice for the table."""
    if not could_choose(table, choice):
        raise InvalidChoice("this is not a choice for the table")


def ends_by(table, choice):
    """Return the tuple with the next one of each number; nothing is checked."""
    return tuple([item[way] for item, way in zip(table, choice)])


def first_meeting(table, choice):
    """Return the first pair found of numbers that meet, or None; nothing is checked."""
    come_from = {}
    for number, end in enumerate(ends_by(table, choice)):
        if end in come_from:
            return come_from[end], number
        come_from[end] = number
    return None


def check_one(table, choice):
    """Raise NotOne if a choice, which is checked already, is not one to one."""
    if first_meeting(table, choice) is not None:
        raise NotOne("the choice is not one to one")


def is_table(value):
    """Tell whether any value is a table."""
    if not isinstance(value, tuple) or not 1 <= len(value) <= MOST_ITEMS:
        return False
    if not all([are_indices(item, len(value)) for item in value]):
        return False
    many = len(value[0])
    if not 1 <= many <= MOST_WAYS_OF_TABLE or any([len(item) != many for item in value]):
        return False
    return all([len(set([item[way] for item in value])) == len(value) for way in range(many)])


def is_choice(table, value):
    """Tell whether any value is a choice for a table."""
    check_table(table)
    return could_choose(table, value)


def next_ones(table, choice):
    """Return the tuple with the next one of each number."""
    check_table(table)
    check_choice(table, choice)
    return ends_by(table, choice)


def two_that_meet(table, choice):
    """Return a pair of numbers that meet, the lesser one first, or None."""
    check_table(table)
    check_choice(table, choice)
    return first_meeting(table, choice)


def blocks_of(table, choice):
    """Return the ascending list of the blocks of a one to one choice."""
    check_table(table)
    check_choice(table, choice)
    check_one(table, choice)
    return cycles_of(ends_by(table, choice))
