"""Lots of numbers that are served: each goes within the lot, no two of them to the same one."""

from rungonce.basics import are_ascending, are_indices, cycles_from
from rungonce.choices import check_table
from rungonce.errors import InvalidChoice, InvalidLot, NotOne


def check_number_lot(table, lot):
    """Raise InvalidLot if this is not a lot for the table."""
    if not are_ascending(lot, len(table)):
        raise InvalidLot("this is not a lot for the table")


def check_lot_and_choice(table, lot, choice):
    """Raise the first error that applies to a table, a lot for it, and a choice for this."""
    check_table(table)
    check_number_lot(table, lot)
    if not are_indices(choice, len(table[0])) or len(choice) != len(lot):
        raise InvalidChoice("this is not a choice for the lot")


def steps_within(table, lot, choice):
    """Return the dict with the next one of each number of a lot; nothing is checked."""
    return {number: table[number][way] for number, way in zip(lot, choice)}


def are_served(lot, steps):
    """Tell whether steps lead the numbers of a lot to all of these."""
    return sorted([steps[number] for number in lot]) == list(lot)


def is_lot(table, value):
    """Tell whether any value is a lot for a table."""
    check_table(table)
    return are_ascending(value, len(table))


def does_serve(table, lot, choice):
    """Tell whether a choice serves a lot."""
    check_lot_and_choice(table, lot, choice)
    return are_served(lot, steps_within(table, lot, choice))


def blocks_of_lot(table, lot, choice):
    """Return the ascending list of the blocks of a choice that serves a lot."""
    check_lot_and_choice(table, lot, choice)
    steps = steps_within(table, lot, choice)
    if not are_served(lot, steps):
        raise NotOne("the choice does not serve the lot")
    return cycles_from(steps, lot)
