"""Courses of ways, the rows that these hold in them, and the places that meet."""

from rungonce.basics import are_indices
from rungonce.errors import InvalidCourse
from rungonce.groups import acting_rows, check_bells_and_ways
from rungonce.leads import rows_behind
from rungonce.rows import joint_row, rounds_of

MOST_PLACES = 800


def could_be_course(ways, value):
    """Tell whether any value is a course of ways, which are not checked."""
    return are_indices(value, len(ways)) and len(value) <= MOST_PLACES


def check_ways_and_course(bells, ways, course):
    """Raise the first error that applies to the bells, to ways of so many, and to a course of these."""
    check_bells_and_ways(bells, ways)
    if not could_be_course(ways, course):
        raise InvalidCourse("this is not a course of the ways")


def held_rows(bells, lead):
    """Return the list of the rows that a way holds from rounds; nothing is checked."""
    return [rounds_of(bells)] + rows_behind(rounds_of(bells), lead)[:-1]


def is_spoilt(bells, lead):
    """Tell whether a way is spoilt; nothing is checked."""
    held = held_rows(bells, lead)
    return len(set(held)) < len(held)


def course_heads(bells, ways, course):
    """Return the list of the heads of a course, and of its end; nothing is checked."""
    steps = acting_rows(bells, ways)
    heads = [rounds_of(bells)]
    for way in course:
        heads.append(joint_row(heads[-1], steps[way]))
    return heads


def course_rows(bells, ways, course):
    """Return the list of the lists of the rows that the ways hold in a course; nothing is checked."""
    held = [held_rows(bells, lead) for lead in ways]
    # The end behind all places is left out.
    return [[joint_row(head, row) for row in held[way]]
            for head, way in zip(course_heads(bells, ways, course), course)]


def row_masks(held):
    """Return, for each list of rows, an integer that has a bit for each row of it, the same one in all of them."""
    bits = {}
    masks = []
    for rows in held:
        mask = 0
        for row in rows:
            mask = mask | (1 << bits.setdefault(row, len(bits)))
        masks.append(mask)
    return masks


def is_course(bells, ways, value):
    """Tell whether any value is a course of ways."""
    check_bells_and_ways(bells, ways)
    return could_be_course(ways, value)


def heads_of(bells, ways, course):
    """Return the list of the heads of all places, and of the end behind them."""
    check_ways_and_course(bells, ways, course)
    return course_heads(bells, ways, course)


def rows_held(bells, ways, course):
    """Return the list of the lists of the rows that the ways hold from their heads."""
    check_ways_and_course(bells, ways, course)
    return course_rows(bells, ways, course)


def spoilt_ways(bells, ways):
    """Return the ascending list of the indices of spoilt ways."""
    check_bells_and_ways(bells, ways)
    return [way for way, lead in enumerate(ways) if is_spoilt(bells, lead)]


def places_that_meet(bells, ways, course):
    """Return the ascending list of the pairs of places that meet, the lesser first."""
    check_ways_and_course(bells, ways, course)
    masks = row_masks(course_rows(bells, ways, course))
    return [(place, later) for place, mask in enumerate(masks)
            for later in range(place + 1, len(masks)) if mask & masks[later]]


def is_clean(bells, ways, course):
    """Tell whether no two places meet, and no way in the course is spoilt."""
    check_ways_and_course(bells, ways, course)
    # Both are so just if no row is held twice, by one place or by two.
    rows = [row for held in course_rows(bells, ways, course) for row in held]
    return len(set(rows)) == len(rows)
