"""Paths of bells: the places where they stand in the rows of a lead, and the leads that have them."""

from rungonce.basics import are_indices, is_index, is_integer
from rungonce.errors import InvalidBell, InvalidMany, InvalidPaths
from rungonce.leads import MOST_CHANGES, check_bells_and_lead, rows_behind
from rungonce.rows import all_changes, check_bells, rounds_of


def check_bell(bells, bell):
    """Raise InvalidBell if this is not one of so many bells."""
    if not is_index(bell, bells):
        raise InvalidBell("this is not one of the bells")


def check_bells_and_many(bells, many):
    """Raise the first error that applies to the bells and to how many changes there are."""
    check_bells(bells)
    if not is_integer(many) or not 1 <= many <= MOST_CHANGES:
        raise InvalidMany("there must be 1 to 24 changes")


def check_paths(bells, many, paths):
    """Raise the first error that applies to the bells, to how many changes there are, and to paths of so many."""
    check_bells_and_many(bells, many)
    if not could_be_paths(bells, many, paths):
        raise InvalidPaths("these are not paths of so many bells and changes")


def could_be_path(bells, many, value):
    """Tell whether any value is a pair of a bell and of a path of it; nothing else is checked."""
    if not isinstance(value, tuple) or len(value) != 2 or not is_index(value[0], bells):
        return False
    return are_indices(value[1], bells) and len(value[1]) == many + 1 and value[1][0] == value[0]


def could_be_paths(bells, many, value):
    """Tell whether any value is paths of so many bells and changes, which are not checked."""
    if not isinstance(value, tuple) or not all([could_be_path(bells, many, pair) for pair in value]):
        return False
    return all([pair[0] < later[0] for pair, later in zip(value, value[1:])])


def path_by(bells, lead, bell):
    """Return the path of a bell by a lead; nothing is checked."""
    return (bell,) + tuple([row.index(bell) for row in rows_behind(rounds_of(bells), lead)])


def place_behind(change, place):
    """Return the place to which a change moves the bell at a place; nothing is checked."""
    if place in change:
        return place + 1
    return place - 1 if place - 1 in change else place


def fitting_changes(bells, many, paths):
    """Return, for each of so many changes, the ascending list of those by which all paths go on; nothing is checked."""
    changes = all_changes(bells)
    return [[change for change in changes
             if all([place_behind(change, path[at]) == path[at + 1] for _, path in paths])] for at in range(many)]


def path_of(bells, lead, bell):
    """Return the path of a bell by a lead."""
    check_bells_and_lead(bells, lead)
    check_bell(bells, bell)
    return path_by(bells, lead, bell)


def are_paths(bells, many, value):
    """Tell whether any value is paths of so many bells and changes."""
    check_bells_and_many(bells, many)
    return could_be_paths(bells, many, value)


def count_leads(bells, many, paths):
    """Return how many leads of so many changes have these paths."""
    check_paths(bells, many, paths)
    count = 1
    for changes in fitting_changes(bells, many, paths):
        count = count * len(changes)
    return count


def lead_with(bells, many, paths):
    """Return any lead of so many changes that has these paths, or None."""
    check_paths(bells, many, paths)
    fitting = fitting_changes(bells, many, paths)
    return tuple([changes[0] for changes in fitting]) if all(fitting) else None
