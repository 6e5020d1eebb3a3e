"""Slips, by which bells take one another's work, what is heard of them, and how few lead to a renaming."""

from rungonce.basics import is_index
from rungonce.errors import InvalidRenaming, InvalidSlips
from rungonce.leads import check_bells_and_lead, rows_behind
from rungonce.rows import is_row, joint_row, rounds_of

MOST_SLIPS = 40


def could_slip(bells, lead, value):
    """Tell whether any value is a slip of a lead, which is not checked."""
    if not isinstance(value, tuple) or len(value) != 2:
        return False
    return is_index(value[0], len(lead)) and is_index(value[1], bells - 1)


def could_be_slips(bells, lead, value):
    """Tell whether any value is slips of a lead, which is not checked."""
    if not isinstance(value, tuple) or len(value) > MOST_SLIPS:
        return False
    if not all([could_slip(bells, lead, slip) for slip in value]):
        return False
    return all([slip[0] <= later[0] for slip, later in zip(value, value[1:])])


def check_slips(bells, lead, slips):
    """Raise the first error that applies to the bells, to a lead of so many, and to slips of it."""
    check_bells_and_lead(bells, lead)
    if not could_be_slips(bells, lead, slips):
        raise InvalidSlips("these are not slips of the lead")


def check_renaming(bells, lead, renaming):
    """Raise the first error that applies to the bells, to a lead of so many, and to a renaming of them."""
    check_bells_and_lead(bells, lead)
    if not is_row(renaming) or len(renaming) != bells:
        raise InvalidRenaming("this is not a renaming of so many bells")


def rows_of_works(bells, lead):
    """Return the list of the rows of a lead, rounds ahead of all; nothing is checked."""
    return [rounds_of(bells)] + rows_behind(rounds_of(bells), lead)


def slipped(renaming, row, place):
    """Return the renaming behind a slip at a place, where a row of works stands."""
    behind = list(renaming)
    work, mate = row[place], row[place + 1]
    behind[work], behind[mate] = behind[mate], behind[work]
    return tuple(behind)


def renamings_by(bells, lead, slips):
    """Return the list of the renamings with which the rows of a lead are rung, rounds left out; nothing is checked."""
    renamings = []
    renaming = rounds_of(bells)
    for index, row in enumerate(rows_of_works(bells, lead)[:-1]):
        for slip in slips:
            if slip[0] == index:
                renaming = slipped(renaming, row, slip[1])
        renamings.append(renaming)
    return renamings


def with_slips_at(found, index, row):
    """Return the dict of what is found, as in fewest_by_index, with slips at an index, too, where this row stands."""
    best = {}
    last = {}
    many = 0
    while many == 0 or last:
        # Of slips just so many, those that come without one at this index, and those that end with one.
        level = {renaming: found[renaming] for renaming in found
                 if renaming not in best and len(found[renaming][0]) == many}
        for renaming in last:
            slips, count = last[renaming]
            for place in range(len(row) - 1):
                behind = slipped(renaming, row, place)
                if behind not in best:
                    first, others = level.get(behind, (slips + ((index, place),), 0))
                    level[behind] = (first, others + count)
        for renaming in level:
            best[renaming] = level[renaming]
        last = level
        many = many + 1
    return best


def fewest_by_index(bells, lead):
    """Return the list, for each index of a change, of what slips with indices up to it lead to; nothing is checked.

    This is a dict with, for each renaming, a pair: slips behind which it is this, as few as can be, and how many
    tuples of so few do it.
    """
    found = {rounds_of(bells): ((), 1)}
    layers = []
    for index, row in enumerate(rows_of_works(bells, lead)[:-1]):
        found = with_slips_at(found, index, row)
        layers.append(found)
    return layers


def are_slips(bells, lead, value):
    """Tell whether any value is slips of a lead."""
    check_bells_and_lead(bells, lead)
    return could_be_slips(bells, lead, value)


def rows_heard(bells, lead, slips):
    """Return the list of the rows that are heard, rounds left out."""
    check_slips(bells, lead, slips)
    rows = rows_of_works(bells, lead)[1:]
    return [joint_row(renaming, row) for renaming, row in zip(renamings_by(bells, lead, slips), rows)]


def renaming_by(bells, lead, slips):
    """Return the renaming behind all slips."""
    check_slips(bells, lead, slips)
    return renamings_by(bells, lead, slips)[-1]


def fewest_slips(bells, lead, renaming):
    """Return any slips, as few as can be, behind which it is this renaming."""
    check_renaming(bells, lead, renaming)
    return fewest_by_index(bells, lead)[-1][renaming][0]


def count_fewest(bells, lead, renaming):
    """Return how many tuples of slips, as few as can be, there are behind which it is this renaming."""
    check_renaming(bells, lead, renaming)
    return fewest_by_index(bells, lead)[-1][renaming][1]


def single_slips(bells, lead, renaming):
    """Return any slips, as few as can be, no two of them at one index, behind which it is this renaming, or None."""
    check_renaming(bells, lead, renaming)
    found = {rounds_of(bells): ()}
    for index, row in enumerate(rows_of_works(bells, lead)[:-1]):
        further = {known: found[known] for known in found}
        for known in found:
            slips = found[known]
            for place in range(bells - 1):
                behind = slipped(known, row, place)
                if behind not in further or len(further[behind]) > len(slips) + 1:
                    further[behind] = slips + ((index, place),)
        found = further
    return found.get(renaming)
