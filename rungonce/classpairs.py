"""Classes of two ways beside those of two others."""

from rungonce.basics import are_ascending, first_unlike, joined_lots_of, labels_of, lots_alike
from rungonce.choices import check_table
from rungonce.classes import all_classes, check_two_ways, check_way
from rungonce.errors import InvalidNumbers


def check_four_ways(table, one, two, three, four):
    """Raise the first error that applies to a table and four indices of its ways."""
    check_two_ways(table, one, two)
    check_way(table, three)
    check_way(table, four)


def first_parted(table, one, two, three, four):
    """Return the first pair of numbers in one class of the first two ways and not of the others, or None."""
    check_four_ways(table, one, two, three, four)
    labels = labels_of(len(table), all_classes(table, three, four))
    for numbers in all_classes(table, one, two):
        # If any two numbers of a class are parted, its least one is parted from some other one.
        pair = first_unlike(sorted(numbers), labels)
        if pair is not None:
            return pair
    return None


def common_lots(table, one, two, three, four):
    """Return the ascending list of the lots of all numbers that are in one class by both pairs of ways."""
    check_four_ways(table, one, two, three, four)
    labels = labels_of(len(table), all_classes(table, one, two))
    others = labels_of(len(table), all_classes(table, three, four))
    return lots_alike(list(zip(labels, others)))


def joined_lots(table, one, two, three, four):
    """Return the ascending list of the lots of all numbers to which classes of either pair of ways lead."""
    check_four_ways(table, one, two, three, four)
    return joined_lots_of(len(table), all_classes(table, one, two) + all_classes(table, three, four))


def pairs_with(table, numbers):
    """Return the ascending list of all pairs of ways that have a class of just these numbers."""
    check_table(table)
    if not are_ascending(numbers, len(table)):
        raise InvalidNumbers("these are not an ascending tuple of numbers")
    pairs = []
    for two in range(len(table[0])):
        for one in range(two):
            if numbers in [tuple(sorted(found)) for found in all_classes(table, one, two)]:
                pairs.append((one, two))
    return sorted(pairs)
