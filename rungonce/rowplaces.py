"""Places that stand in changes, and the numbers of rows."""

from rungonce.basics import are_ascending, is_index
from rungonce.errors import InvalidNumber, InvalidPlaces
from rungonce.rows import check_any_row, check_bells, check_change


def standing_places(bells, change):
    """Return the ascending tuple of the places that stand in a change; nothing is checked."""
    return tuple([place for place in range(bells) if place not in change and place - 1 not in change])


def lesser_behind(row):
    """Return, for each place of a row, how many lesser bells stand behind it."""
    return [len([bell for bell in row[place:] if bell < row[place]]) for place in range(len(row))]


def stands_at(bells, change):
    """Return the ascending tuple of the places that stand in a change."""
    check_bells(bells)
    check_change(bells, change)
    return standing_places(bells, change)


def change_standing(bells, places):
    """Return the change in which just these places stand, or None."""
    check_bells(bells)
    if not are_ascending(places, bells):
        raise InvalidPlaces("these are not an ascending tuple of places")
    moving = [place for place in range(bells) if place not in places]
    # Read from the first one on, the moving places must be neighbours two by two.
    change = tuple(moving[::2])
    return change if all([place + 1 in moving for place in change]) else None


def row_number(row):
    """Return the index of a row among all rows of as many bells, ascending."""
    check_any_row(row)
    number = 0
    for place, many in enumerate(lesser_behind(row)):
        number = number * (len(row) - place) + many
    return number


def row_at(bells, number):
    """Return the row with an index among all rows of so many bells, ascending."""
    check_bells(bells)
    count = 1
    for left in range(1, bells + 1):
        count = count * left
    if not is_index(number, count):
        raise InvalidNumber("this is not the index of a row")
    bells_left = list(range(bells))
    row = []
    for left in range(bells, 0, -1):
        count = count // left
        row.append(bells_left.pop(number // count))
        number = number % count
    return tuple(row)


def pairs_turned(row):
    """Return how many pairs of bells stand in a row with the greater one ahead."""
    check_any_row(row)
    return sum(lesser_behind(row))
