"""Ways that begin alike, ways that are begun elsewhere, and mirrored ways."""

from rungonce.basics import is_index
from rungonce.errors import InvalidNumber, InvalidWays
from rungonce.groups import check_bells_and_ways, check_ways


def common_count(ways):
    """Return how many changes, from the first one on, are the same in all ways; nothing is checked."""
    shortest = min([len(lead) for lead in ways])
    count = 0
    while count < shortest and all([lead[count] == ways[0][count] for lead in ways]):
        count = count + 1
    return count


def begun_behind(ways, number):
    """Return the ways begun elsewhere by a number; nothing is checked."""
    return tuple([lead[number:] + lead[:number] for lead in ways])


def common_beginning(bells, ways):
    """Return the common beginning of ways."""
    check_bells_and_ways(bells, ways)
    return common_count(ways)


def begun_elsewhere(bells, ways, number):
    """Return the ways begun elsewhere by a number up to their common beginning."""
    check_bells_and_ways(bells, ways)
    if not is_index(number, common_count(ways) + 1):
        raise InvalidNumber("this is not a number up to the common beginning")
    return begun_behind(ways, number)


def mirrored_ways(bells, ways):
    """Return the mirrored ways."""
    check_bells_and_ways(bells, ways)
    return tuple([tuple([tuple([bells - 2 - place for place in change[::-1]]) for change in lead]) for lead in ways])


def begun_by(bells, ways, others):
    """Return the least number by which the ways are begun elsewhere to be others, or None."""
    check_bells_and_ways(bells, ways)
    check_ways(bells, others)
    if len(others) != len(ways):
        raise InvalidWays("these are not as many ways")
    for number in range(common_count(ways) + 1):
        if begun_behind(ways, number) == others:
            return number
    return None
