"""Ways that may stand for others that act alike: they bring no meeting that was not there."""

from rungonce.errors import UnlikeEnds
from rungonce.groups import acting_rows, roads_by
from rungonce.leadcourses import is_spoilt
from rungonce.leadmeetings import check_ways_and_two, meeting_rows
from rungonce.rows import joint_row


def first_worsening(bells, ways, one, two):
    """Return any worsening, or None, or raise the first error that applies."""
    check_ways_and_two(bells, ways, one, two)
    steps = acting_rows(bells, ways)
    if steps[one] != steps[two]:
        raise UnlikeEnds("the two ways do not act by the same row")
    if is_spoilt(bells, ways[two]) and not is_spoilt(bells, ways[one]):
        return (one,), (two,), 0, 0
    ahead = [meeting_rows(bells, ways[one], lead) for lead in ways]
    behind = [meeting_rows(bells, ways[two], lead) for lead in ways]
    roads = roads_by(bells, ways, None)
    # It is enough to put two at the first place: the table of two ways is that of these in turn, with rows undone,
    # and what two brings beside itself, it brings beside one, or there is a worsening beside one already.
    for road in roads:
        row = joint_row(steps[one], road)
        for way in range(len(ways)):
            if row in behind[way] and row not in ahead[way]:
                rest = roads[road] + (way,)
                return (one,) + rest, (two,) + rest, 0, len(rest)
    return None


def may_stand_for(bells, ways, one, two):
    """Tell whether the way one may be stood for by the way two."""
    return first_worsening(bells, ways, one, two) is None


def worsening_of(bells, ways, one, two):
    """Return any worsening of the way one by the way two, or None."""
    return first_worsening(bells, ways, one, two)
