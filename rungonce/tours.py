"""Tours: methods with a composition, the heads of their leads, and what their bells do."""

from rungonce.compositions import could_call, could_compose, method_ways, rows_composed
from rungonce.errors import InvalidTour
from rungonce.leadcourses import course_heads
from rungonce.leads import could_lead
from rungonce.paths import check_bell
from rungonce.rows import could_be_bells, rounds_of


def check_tour(tour):
    """Raise InvalidTour if this is not a tour."""
    if not is_tour(tour):
        raise InvalidTour("this is not a tour")


def check_tour_and_bell(tour, bell):
    """Raise the first error that applies to a tour and a bell of it."""
    check_tour(tour)
    check_bell(tour[0], bell)


def heads_by(tour):
    """Return the list of the heads of a tour; nothing is checked."""
    bells, lead, calls, composition = tour
    return course_heads(bells, method_ways(lead, calls), composition)


def tour_rows(tour):
    """Return the list of the rows of a tour; nothing is checked."""
    bells, lead, calls, composition = tour
    return [rounds_of(bells)] + rows_composed(bells, lead, calls, composition)


def is_tour(value):
    """Tell whether any value is a tour."""
    if not isinstance(value, tuple) or len(value) != 4:
        return False
    bells, lead, calls, composition = value
    if not could_be_bells(bells) or not could_lead(bells, lead) or not could_call(bells, calls):
        return False
    return could_compose(calls, composition)


def tour_heads(tour):
    """Return the list of the heads of a tour."""
    check_tour(tour)
    return heads_by(tour)


def tour_path(tour, bell):
    """Return the list of the places of a bell in the rows of a tour."""
    check_tour_and_bell(tour, bell)
    return [row.index(bell) for row in tour_rows(tour)]


def tour_crossings(tour, bell, other_bell):
    """Return the list of the indices of rows behind which two bells stand in the other order."""
    check_tour_and_bell(tour, bell)
    check_bell(tour[0], other_bell)
    ahead = [row.index(bell) < row.index(other_bell) for row in tour_rows(tour)]
    return [index for index in range(len(ahead) - 1) if ahead[index] != ahead[index + 1]]
