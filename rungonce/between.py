"""What lies between two choices that are one to one: the rings by which the one is led to the other."""

from rungonce.basics import cycles_of, is_index, undone_steps
from rungonce.choices import check_choice, check_one, check_table, could_choose, ends_by, first_meeting
from rungonce.errors import InvalidIndex


def check_two_choices(table, choice, beside):
    """Raise the first error that applies to a table and two one to one choices for it."""
    check_table(table)
    check_choice(table, choice)
    check_one(table, choice)
    check_choice(table, beside)
    check_one(table, beside)


def all_rings(table, choice, beside):
    """Return the ascending list of the rings between two choices; nothing is checked."""
    ahead = undone_steps(ends_by(table, beside))
    # A number with the same way in both choices follows itself, so that no ring mixes alike ways and unlike ones.
    rings = cycles_of([ahead[end] for end in ends_by(table, choice)])
    return [ring for ring in rings if choice[ring[0]] != beside[ring[0]]]


def rings_between(table, choice, beside):
    """Return the ascending list of the rings between two one to one choices."""
    check_two_choices(table, choice, beside)
    return all_rings(table, choice, beside)


def turned_ring(table, choice, beside, index):
    """Return the choice with the ways of the second choice in the ring with an index, otherwise of the first one."""
    check_two_choices(table, choice, beside)
    rings = all_rings(table, choice, beside)
    if not is_index(index, len(rings)):
        raise InvalidIndex("this is not the index of a ring")
    return tuple([beside[number] if number in rings[index] else way for number, way in enumerate(choice)])


def are_between(table, choice, beside, value):
    """Tell whether any value is a one to one choice between two of them."""
    check_two_choices(table, choice, beside)
    if not could_choose(table, value) or first_meeting(table, value) is not None:
        return False
    return all([way in (first, second) for way, first, second in zip(value, choice, beside)])
