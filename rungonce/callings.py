"""Compositions that are told by the places of one bell, and those that are led by such pairs."""

from rungonce.basics import is_index
from rungonce.compositions import MOST_LEADS, check_method, method_ways
from rungonce.errors import InvalidPairs
from rungonce.groups import acting_rows
from rungonce.paths import check_bell
from rungonce.rows import joint_row, rounds_of
from rungonce.tours import check_tour_and_bell, heads_by

MOST_PAIRS_TOLD = 40


def check_pairs(bells, calls, pairs):
    """Raise InvalidPairs if these are not at most 40 pairs of a place and of an index, not 0, of a way."""
    if not isinstance(pairs, tuple) or len(pairs) > MOST_PAIRS_TOLD:
        raise InvalidPairs("pairs must be a tuple of at most 40 pairs")
    for pair in pairs:
        if not isinstance(pair, tuple) or len(pair) != 2 or not is_index(pair[0], bells):
            raise InvalidPairs("this is not a pair of a place and of a way")
        if not is_index(pair[1], len(calls) + 1) or pair[1] == 0:
            raise InvalidPairs("this is not an index, not 0, of a way")


def pairs_by(tour, bell):
    """Return the tuple of the pairs by which the composition of a tour is told; nothing is checked."""
    heads = heads_by(tour)[1:]
    return tuple([(head.index(bell), way) for head, way in zip(heads, tour[3]) if way != 0])


def composition_by(bells, steps, bell, pairs):
    """Return the composition that pairs lead, of ways that act by some rows, or None; nothing is checked."""
    composition = []
    head = rounds_of(bells)
    used = 0
    while len(composition) < MOST_LEADS:
        way = 0
        if used < len(pairs) and joint_row(head, steps[pairs[used][1]]).index(bell) == pairs[used][0]:
            way = pairs[used][1]
            used = used + 1
        composition.append(way)
        head = joint_row(head, steps[way])
        if used == len(pairs) and head == rounds_of(bells):
            return tuple(composition)
    return None


def told_by_bell(tour, bell):
    """Return the tuple of the pairs by which the composition of a tour is told."""
    check_tour_and_bell(tour, bell)
    return pairs_by(tour, bell)


def is_plainly_called(tour, bell):
    """Tell whether the composition of a tour is plainly called: it comes round, and its pairs lead it."""
    check_tour_and_bell(tour, bell)
    bells, lead, calls, composition = tour
    steps = acting_rows(bells, method_ways(lead, calls))
    # What pairs lead comes round, so that nothing else has to be asked.
    return composition_by(bells, steps, bell, pairs_by(tour, bell)) == composition


def led_by_bell(bells, lead, calls, bell, pairs):
    """Return the composition that pairs lead, or None."""
    check_method(bells, lead, calls)
    check_bell(bells, bell)
    check_pairs(bells, calls, pairs)
    return composition_by(bells, acting_rows(bells, method_ways(lead, calls)), bell, pairs)
