"""Tables of two ways: their classes, and the choices and blocks of lots of these."""

from rungonce.basics import are_ascending, cycles_of, joined_lots_of
from rungonce.choices import ends_by, is_table
from rungonce.classes import all_classes
from rungonce.errors import InvalidLot, InvalidTable, NotOneBlock, NotPaired


def check_turn_table(table):
    """Raise InvalidTable if this is not a table with two ways."""
    if not is_table(table) or len(table[0]) != 2:
        raise InvalidTable("this is not a table with two ways")


def all_paired(classes):
    """Tell whether no class has more than two numbers."""
    return all([len(numbers) <= 2 for numbers in classes])


def classes_for(table, lots):
    """Return the ascending list of all classes, or raise the first error that applies to a table and lots of these."""
    check_turn_table(table)
    classes = all_classes(table, 0, 1)
    for lot in lots:
        if not are_ascending(lot, len(classes)):
            raise InvalidLot("this is not a lot of classes of the table")
    return classes


def paired_classes(table, lots):
    """Return the classes likewise, or raise NotPaired, behind these errors, if one has more than two numbers."""
    classes = classes_for(table, lots)
    if not all_paired(classes):
        raise NotPaired("the table is not paired")
    return classes


def choice_turned(table, classes, lot):
    """Return the choice of a lot of the classes; nothing is checked."""
    choice = [0] * len(table)
    for label in lot:
        for number in classes[label]:
            choice[number] = 1
    return tuple(choice)


def blocks_turned(table, classes, lot):
    """Return the ascending list of the blocks of a lot of the classes; nothing is checked."""
    return cycles_of(ends_by(table, choice_turned(table, classes, lot)))


def check_one_block(table, classes, lot):
    """Raise NotOneBlock if a lot of the classes is not a one-block lot."""
    if len(blocks_turned(table, classes, lot)) != 1:
        raise NotOneBlock("the lot is not a one-block lot")


def is_whole(table):
    """Tell whether ways, one behind the other, lead from 0 to all numbers; nothing is checked."""
    # Each way is one to one, so that ways lead back again from wherever they lead to.
    return len(joined_lots_of(len(table), [(number,) + item for number, item in enumerate(table)])) == 1


def turn_classes(table):
    """Return the ascending list of all classes."""
    return classes_for(table, [])


def lot_choice(table, lot):
    """Return the choice of a lot: the way 1 for all numbers of its classes, 0 for all others."""
    classes = classes_for(table, [lot])
    return choice_turned(table, classes, lot)


def lot_blocks(table, lot):
    """Return how many blocks a lot has."""
    classes = classes_for(table, [lot])
    return len(blocks_turned(table, classes, lot))


def is_whole_table(table):
    """Tell whether a table is whole: ways, one behind the other, lead from 0 to all numbers."""
    check_turn_table(table)
    return is_whole(table)


def is_paired(table):
    """Tell whether a table is paired: no class has more than two numbers."""
    return all_paired(classes_for(table, []))
