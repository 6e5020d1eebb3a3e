"""Tables of meetings, and whether ways are alike in meetings in all their courses.

A pair of rows is dealt with as one row: that of the ways, and behind it that of the others, with its bells
counted on from those of the first row.
"""

from rungonce.basics import is_index, undone_steps
from rungonce.errors import InvalidIndex, InvalidWays, TooMany
from rungonce.groups import acting_rows, check_bells_and_ways, check_ways, group_rows
from rungonce.leadcourses import held_rows, is_spoilt
from rungonce.rows import check_bells, joint_row, least_roads, rounds_of

MOST_PAIRS = 500


def check_ways_and_two(bells, ways, one, two):
    """Raise the first error that applies to the bells, to ways of so many, and to two indices of ways."""
    check_bells_and_ways(bells, ways)
    for way in (one, two):
        if not is_index(way, len(ways)):
            raise InvalidIndex("this is not an index of a way")


def meeting_rows(bells, lead, other):
    """Return a dict with all rows such that a way, from rounds, and another one, from them, hold a row in common.

    Nothing is checked.
    """
    undone = [undone_steps(row) for row in held_rows(bells, other)]
    return {joint_row(row, back): True for row in held_rows(bells, lead) for back in undone}


def meeting_tables(bells, ways):
    """Return the list, for each way, of the list of its meeting rows with each way; nothing is checked."""
    return [[meeting_rows(bells, lead, other) for other in ways] for lead in ways]


def pair_of(row, other):
    """Return the pair of two rows."""
    return row + tuple([len(row) + bell for bell in other])


def parted_pair(bells, pair):
    """Return the two rows of a pair, the first of which has so many bells."""
    return pair[:bells], tuple([bell - bells for bell in pair[bells:]])


def pair_steps(bells, ways, number, others):
    """Return the list of the pairs of rows by which ways and others act, or raise the first error that applies."""
    check_bells_and_ways(bells, ways)
    check_bells(number)
    check_ways(number, others)
    if len(others) != len(ways):
        raise InvalidWays("these are not as many ways")
    return [pair_of(row, other) for row, other in zip(acting_rows(bells, ways), acting_rows(number, others))]


def first_parting(bells, ways, number, others):
    """Return any parting, or None, or raise the first error that applies."""
    steps = pair_steps(bells, ways, number, others)
    roads = least_roads(rounds_of(bells + number), steps, None, MOST_PAIRS)
    if len(roads) > MOST_PAIRS:
        raise TooMany(MOST_PAIRS)
    for way in range(len(ways)):
        if is_spoilt(bells, ways[way]) != is_spoilt(number, others[way]):
            return (way,), 0, 0
    tables, other_tables = meeting_tables(bells, ways), meeting_tables(number, others)
    for one, step in enumerate(steps):
        for pair in roads:
            # The way one stands ahead of the road to a pair, so that both lead to the head of the way two.
            row, other = parted_pair(bells, joint_row(step, pair))
            for two in range(len(ways)):
                if (row in tables[one][two]) != (other in other_tables[one][two]):
                    return (one,) + roads[pair] + (two,), 0, len(roads[pair]) + 1
    return None


def meetings_of(bells, ways, one, two):
    """Return the table of meetings of two ways."""
    check_ways_and_two(bells, ways, one, two)
    met = meeting_rows(bells, ways[one], ways[two])
    return tuple([row for row in group_rows(bells, ways) if row in met])


def alike_in_meetings(bells, ways, number, others):
    """Tell whether ways and others are alike in meetings."""
    return first_parting(bells, ways, number, others) is None


def parting_of(bells, ways, number, others):
    """Return any parting of ways and others, or None."""
    return first_parting(bells, ways, number, others)
