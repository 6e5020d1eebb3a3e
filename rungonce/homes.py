"""Homes of tours: what brings them round, and what does so truly."""

from rungonce.basics import is_integer, undone_steps
from rungonce.compositions import MOST_LEADS, method_ways
from rungonce.errors import InvalidMany
from rungonce.groups import acting_rows, roads_by
from rungonce.leads import rows_behind
from rungonce.tours import check_tour, heads_by, tour_rows

MOST_ITEMS_OF_HOME = 4


def check_tour_and_many(tour, many):
    """Raise the first error that applies to a tour, and to how many items a home may have."""
    check_tour(tour)
    if not is_integer(many) or not 0 <= many <= MOST_ITEMS_OF_HOME:
        raise InvalidMany("there must be an integer from 0 to 4 of items")


def are_unlike(rows):
    """Tell whether no two rows are the same."""
    return len(set(rows)) == len(rows)


def homes_among(tries):
    """Return the list of those of some tries, pairs of items and of all rows with these, that are true homes."""
    return [home for home, rows in tries if len(rows) > 1 and rows[-1] == rows[0] and are_unlike(rows[1:])]


def true_homes(tour, many):
    """Return the list of all true homes of at most so many items, in their order; nothing is checked."""
    _, lead, calls, composition = tour
    ways = method_ways(lead, calls)
    tries = [((), tour_rows(tour))]
    homes = homes_among(tries)
    for _ in range(min(many, MOST_LEADS - len(composition))):
        # What has a row twice, were it only the last one as the first one, is true no more when it goes on.
        tries = [(home + (way,), rows + rows_behind(rows[-1], ways[way]))
                 for home, rows in tries if are_unlike(rows) for way in range(len(ways))]
        homes.extend(homes_among(tries))
    return homes


def least_home(tour):
    """Return the first home of a tour, or None if there is none with which it has at most 40 leads."""
    check_tour(tour)
    bells, lead, calls, composition = tour
    ways = method_ways(lead, calls)
    # A tour without leads comes round with one lead or more only.
    begun = [((), heads_by(tour)[-1])]
    if composition == ():
        begun = [((way,), row) for way, row in enumerate(acting_rows(bells, ways))]
    homes = []
    for items, head in begun:
        goal = tuple(undone_steps(head))
        home = items + roads_by(bells, ways, goal)[goal]
        homes.append((len(home), home))
    many, home = min(homes)
    return home if len(composition) + many <= MOST_LEADS else None


def true_home(tour, many):
    """Return the first true home of a tour of at most so many items, or None."""
    check_tour_and_many(tour, many)
    homes = true_homes(tour, many)
    return homes[0] if homes else None


def open_ways(tour, many):
    """Return the ascending list of all ways with which a true home of 1 to so many items begins."""
    check_tour_and_many(tour, many)
    first = {home[0]: True for home in true_homes(tour, many) if home != ()}
    return sorted(first)
