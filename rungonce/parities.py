"""Whether choices of two ways have an odd number of blocks, or an even one."""

from rungonce.basics import cycles_of, is_index
from rungonce.choices import check_choice, check_one, ends_by
from rungonce.errors import InvalidIndex
from rungonce.twoways import all_ties, check_told, check_two, least_with


def block_parity(two, choice):
    """Return 1 if a one to one choice has an odd number of blocks, otherwise 0; nothing is checked."""
    return len(cycles_of(ends_by(two, choice))) % 2


def swaying_ties(two, told):
    """Return the ties without told numbers whose way decides the parity; nothing is checked."""
    # Turning a tie changes the number of blocks by one less than the tie has numbers, but for an even number.
    numbers = [pair[0] for pair in told]
    return [tie for tie in all_ties(two) if len(tie) % 2 == 0 and not any([number in numbers for number in tie])]


def parity_of(two, choice):
    """Return 1 if a one to one choice has an odd number of blocks, otherwise 0."""
    check_two(two)
    check_choice(two, choice)
    check_one(two, choice)
    return block_parity(two, choice)


def only_parity(two, told):
    """Return the parity that all one to one choices with told ways have, or None if there is no such one."""
    check_two(two)
    check_told(two, told)
    least = least_with(two, told)
    if least is None or swaying_ties(two, told):
        return None
    return block_parity(two, least)


def choice_with_parity(two, told, parity):
    """Return the least one to one choice, in Python's order, with a parity and with told ways, or None."""
    check_two(two)
    check_told(two, told)
    if not is_index(parity, 2):
        raise InvalidIndex("a parity must be 0 or 1")
    least = least_with(two, told)
    if least is None or block_parity(two, least) == parity:
        return least
    swaying = swaying_ties(two, told)
    if not swaying:
        return None
    # The last of these ties begins with the greatest number, so that the least choice turns it alone.
    return tuple([1 if number in swaying[-1] else way for number, way in enumerate(least)])
