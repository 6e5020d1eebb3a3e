"""Choices of two ways, by ties: lots of numbers that have to go by one way alike."""

from rungonce.basics import are_ascending, are_indices, first_unlike, is_index
from rungonce.choices import check_choice, check_one, check_table
from rungonce.classes import all_classes
from rungonce.errors import InvalidIndex, InvalidTold, NotTwo


def check_two(two):
    """Raise InvalidTable, or NotTwo, if this is not a table of two ways."""
    check_table(two)
    if len(two[0]) != 2:
        raise NotTwo("this is a table of another number of ways than two")


def check_told(table, told):
    """Raise InvalidTold if these are not told ways of the table."""
    if not isinstance(told, tuple) or not all([isinstance(pair, tuple) and len(pair) == 2 for pair in told]):
        raise InvalidTold("told ways must be a tuple of pairs")
    numbers = tuple([pair[0] for pair in told])
    ways = tuple([pair[1] for pair in told])
    if not are_ascending(numbers, len(table)) or not are_indices(ways, len(table[0])):
        raise InvalidTold("these are not told ways of the table")


def all_ties(two):
    """Return the ascending list of the ties; nothing is checked."""
    return [tuple(sorted(numbers)) for numbers in all_classes(two, 0, 1)]


def tied_choice(ties, ways):
    """Return the choice that has throughout each tie the way of this."""
    chosen = {number: way for tie, way in zip(ties, ways) for number in tie}
    return tuple([chosen[number] for number in range(len(chosen))])


def first_apart(ties, ways):
    """Return the first pair of numbers of one tie that have unlike ways in a dict of told ones, or None."""
    pairs = [first_unlike([number for number in tie if number in ways], ways) for tie in ties]
    return min([pair for pair in pairs if pair is not None], default=None)


def least_with(two, told):
    """Return the least one to one choice that has told ways, or None; nothing is checked."""
    ties, ways = all_ties(two), {number: way for number, way in told}
    if first_apart(ties, ways) is not None:
        return None
    return tied_choice(ties, [max([ways.get(number, 0) for number in tie]) for tie in ties])


def ties_of(two):
    """Return the ascending list of the ties of a table of two ways."""
    check_two(two)
    return all_ties(two)


def count_two(two, told):
    """Return how many one to one choices have told ways."""
    check_two(two)
    check_told(two, told)
    ties, ways = all_ties(two), {number: way for number, way in told}
    if first_apart(ties, ways) is not None:
        return 0
    return 1 << len([tie for tie in ties if not any([number in ways for number in tie])])


def choice_at(two, index):
    """Return the one to one choice with an index among all of them, in Python's order."""
    check_two(two)
    ties = all_ties(two)
    if not is_index(index, 1 << len(ties)):
        raise InvalidIndex("this is not the index of a one to one choice")
    # The ties stand in the order of their least numbers: the first one weighs most.
    return tied_choice(ties, [(index >> (len(ties) - 1 - at)) & 1 for at in range(len(ties))])


def index_of(two, choice):
    """Return the index of a one to one choice among all of them, in Python's order."""
    check_two(two)
    check_choice(two, choice)
    check_one(two, choice)
    index = 0
    for tie in all_ties(two):
        index = 2 * index + choice[tie[0]]
    return index


def led_on(two, told):
    """Return the least one to one choice, in Python's order, that has told ways, or None."""
    check_two(two)
    check_told(two, told)
    return least_with(two, told)


def told_apart(two, told):
    """Return the first pair, in Python's order, of told numbers of one tie with unlike ways, or None."""
    check_two(two)
    check_told(two, told)
    return first_apart(all_ties(two), {number: way for number, way in told})
