"""Classes of two ways: the numbers that have to go by one of them alike."""

from rungonce.basics import cycles_of, is_index, undone_steps
from rungonce.choices import check_table, could_choose
from rungonce.errors import InvalidChoice, InvalidNumber, InvalidWay


def check_way(table, way):
    """Raise InvalidWay if this is not an index of a way of the table."""
    if not is_index(way, len(table[0])):
        raise InvalidWay("this is not an index of a way")


def check_number(table, at):
    """Raise InvalidNumber if this is not a number of the table."""
    if not is_index(at, len(table)):
        raise InvalidNumber("this is not a number of the table")


def check_two_ways(table, one, two):
    """Raise the first error that applies to a table and two indices of its ways."""
    check_table(table)
    check_way(table, one)
    check_way(table, two)


def undone_way(table, way):
    """Return the list that tells, for each number, which one a way leads there; nothing is checked."""
    return undone_steps([item[way] for item in table])


def followers(table, one, two):
    """Return the list of the followers of all numbers; nothing is checked."""
    ahead = undone_way(table, two)
    return [ahead[item[one]] for item in table]


def all_classes(table, one, two):
    """Return the ascending list of all classes of two ways; nothing is checked."""
    return cycles_of(followers(table, one, two))


def class_with(table, one, two, at):
    """Return the class of a number; nothing is checked."""
    return [numbers for numbers in all_classes(table, one, two) if at in numbers][0]


def classes_of(table, one, two):
    """Return the ascending list of all classes of two ways."""
    check_two_ways(table, one, two)
    return all_classes(table, one, two)


def class_of(table, one, two, at):
    """Return the class of a number."""
    check_two_ways(table, one, two)
    check_number(table, at)
    return class_with(table, one, two, at)


def ends_of(table, one, two, at):
    """Return the ends of the class of a number: the next ones by the first way, in the order of the class."""
    check_two_ways(table, one, two)
    check_number(table, at)
    return tuple([table[number][one] for number in class_with(table, one, two, at)])


def class_clash(table, one, two, choice):
    """Return a clash of a choice of the two ways, or None."""
    check_two_ways(table, one, two)
    if not could_choose(table, choice) or not all([way in (one, two) for way in choice]):
        raise InvalidChoice("this is not a choice of the two ways")
    for number, follower in enumerate(followers(table, one, two)):
        if number != follower and choice[number] == one and choice[follower] == two:
            return number, follower
    return None


def count_kept(table, one, two):
    """Return how many choices of two unlike indices have no clash; of two same ones, 1."""
    check_two_ways(table, one, two)
    return 1 << len(all_classes(table, one, two)) if one != two else 1


def count_leadings(table, one, two):
    """Return how many unlike tuples of next ones the choices without a clash have."""
    check_two_ways(table, one, two)
    # A number that is a class of its own is led alike by both ways.
    turning = [numbers for numbers in all_classes(table, one, two) if len(numbers) > 1]
    return 1 << len(turning)
