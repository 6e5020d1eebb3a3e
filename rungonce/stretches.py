"""Stretches of the sides of a lot, and what they force where two ways serve it.

A side is a pair: (0, number) as a number goes, (1, number) as it is come to.
"""

from rungonce.basics import is_index
from rungonce.choices import check_table
from rungonce.classes import all_classes
from rungonce.errors import InvalidPair
from rungonce.lots import check_number_lot


def check_lot_and_pair(table, lot, one, other):
    """Raise the first error that applies to a table, a lot for it, and a pair of unlike indices of ways."""
    check_table(table)
    check_number_lot(table, lot)
    many = len(table[0])
    if not is_index(one, many) or not is_index(other, many) or one == other:
        raise InvalidPair("these are not unlike indices of ways")


def rings_of_sides(table, one, other):
    """Return the list of the rings in which the sides stand for two ways, as tuples; nothing is checked."""
    return [tuple([side for number in numbers for side in ((0, number), (1, table[number][one]))])
            for numbers in all_classes(table, one, other)]


def stretches_in(ring, within):
    """Return the ascending list of the stretches of a ring that has a side of no number within a dict."""
    outer = [at for at, side in enumerate(ring) if side[1] not in within][0]
    stretches = []
    stretch = []
    # Begun behind a side that is left out, and ended with it, no stretch is cut in two.
    for side in ring[outer + 1:] + ring[:outer + 1]:
        if side[1] in within:
            stretch.append(side)
        elif stretch:
            stretches.append(min(tuple(stretch), tuple(stretch[::-1])))
            stretch = []
    return sorted(stretches)


def parted_rings(table, lot, one, other):
    """Return a pair of lists: the whole rings of a lot, and, for each other ring, its stretches; nothing is checked."""
    within = {number: True for number in lot}
    whole, parted = [], []
    for ring in rings_of_sides(table, one, other):
        if all([side[1] in within for side in ring]):
            whole.append(ring)
        else:
            parted.append(stretches_in(ring, within))
    return whole, parted


def all_stretches(table, lot, one, other):
    """Return the ascending list of all stretches; nothing is checked."""
    parted = parted_rings(table, lot, one, other)[1]
    return sorted([stretch for stretches in parted for stretch in stretches])


def first_odd(stretches):
    """Return the first one of stretches that is odd, or None."""
    odd = [stretch for stretch in stretches if len(stretch) % 2 == 1]
    return odd[0] if odd else None


def way_forced(table, stretch, one, other):
    """Return the way by which all numbers of an even stretch go; nothing is checked."""
    # The lesser direction begins with a side that goes; it has to go to the next side, and so on two by two.
    return one if table[stretch[0][1]][one] == stretch[1][1] else other


def ways_forced(table, stretches, one, other):
    """Return the dict with the ways by which the numbers of even stretches go; nothing is checked."""
    return {side[1]: way_forced(table, stretch, one, other) for stretch in stretches for side in stretch[::2]}


def stretches_of(table, lot, one, other):
    """Return the ascending list of all stretches of a lot."""
    check_lot_and_pair(table, lot, one, other)
    return all_stretches(table, lot, one, other)


def odd_stretch(table, lot, one, other):
    """Return the first stretch that is odd, or None."""
    check_lot_and_pair(table, lot, one, other)
    return first_odd(all_stretches(table, lot, one, other))


def whole_rings(table, lot, one, other):
    """Return the ascending list, for each whole ring, of the ascending tuple of its numbers that go."""
    check_lot_and_pair(table, lot, one, other)
    rings = parted_rings(table, lot, one, other)[0]
    return sorted([tuple(sorted([number for kind, number in ring if kind == 0])) for ring in rings])


def forced_ways(table, lot, one, other):
    """Return the tuple of the ways forced for the numbers of a lot, None where both can be; or None if none serves."""
    check_lot_and_pair(table, lot, one, other)
    stretches = all_stretches(table, lot, one, other)
    if first_odd(stretches) is not None:
        return None
    ways = ways_forced(table, stretches, one, other)
    return tuple([ways.get(number) for number in lot])


def is_rest_served(table, lot, one, other):
    """Tell whether some one to one choice of two ways serves a lot, and its rest."""
    check_lot_and_pair(table, lot, one, other)
    rest = tuple([number for number in range(len(table)) if number not in lot])
    # What serves both, put together, is one to one, and there is such a choice of two ways just if both have one.
    return all([first_odd(all_stretches(table, part, one, other)) is None for part in (lot, rest)])


def unlike_stretches(table, lot, one, other):
    """Return the first pair of stretches in one ring, of a lot that is served, with unlike forced ways, or None."""
    check_lot_and_pair(table, lot, one, other)
    if first_odd(all_stretches(table, lot, one, other)) is not None:
        return None
    pairs = []
    for stretches in parted_rings(table, lot, one, other)[1]:
        ways = [way_forced(table, stretch, one, other) for stretch in stretches]
        unlike = [stretch for stretch, way in zip(stretches, ways) if way != ways[0]]
        if unlike:
            pairs.append((stretches[0], unlike[0]))
    return min(pairs, default=None)
