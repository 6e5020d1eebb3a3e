"""How many blocks the choices of two ways have that serve a lot."""

from rungonce.basics import cycles_from
from rungonce.errors import TooMany
from rungonce.lots import steps_within
from rungonce.stretches import check_lot_and_pair, first_odd, parted_rings, ways_forced

MOST_WHOLE_RINGS = 10


def choices_serving(table, lot, one, other):
    """Return the list of all choices of two ways that serve a lot, or raise the first error that applies."""
    check_lot_and_pair(table, lot, one, other)
    whole, parted = parted_rings(table, lot, one, other)
    if len(whole) > MOST_WHOLE_RINGS:
        raise TooMany(MOST_WHOLE_RINGS)
    stretches = [stretch for some in parted for stretch in some]
    if first_odd(stretches) is not None:
        return []
    # All numbers of a whole ring go by one of the two ways, whatever the others do.
    rings = [[number for kind, number in ring if kind == 0] for ring in whole]
    choices = []
    for mask in range(1 << len(rings)):
        ways = ways_forced(table, stretches, one, other)
        for index, numbers in enumerate(rings):
            for number in numbers:
                ways[number] = other if (mask >> index) & 1 else one
        choices.append(tuple([ways[number] for number in lot]))
    return choices


def count_blocks(table, lot, choice):
    """Return how many blocks a choice that serves a lot has; nothing is checked."""
    return len(cycles_from(steps_within(table, lot, choice), lot))


def lot_block_counts(table, lot, one, other):
    """Return the ascending tuple of all numbers of blocks of choices of two ways that serve a lot."""
    choices = choices_serving(table, lot, one, other)
    counts = {count_blocks(table, lot, choice): True for choice in choices}
    return tuple(sorted(counts))


def in_one_block(table, lot, one, other):
    """Return any choice of two ways that serves a lot and has one block, or None."""
    for choice in choices_serving(table, lot, one, other):
        if count_blocks(table, lot, choice) == 1:
            return choice
    return None
