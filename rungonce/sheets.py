"""Sheets: how the stands of classes stand in blocks, and what comes of turning lots of classes."""

from rungonce.basics import are_ascending, cycles_from, cycles_of, is_index, is_integer
from rungonce.choices import check_table
from rungonce.classes import all_classes
from rungonce.errors import InvalidLot, InvalidSheet, InvalidStand, InvalidWays, TooMany

MOST_CLASSES = 10
FEWEST_STANDS = 2
MOST_STANDS = 6


def is_pair(value):
    """Tell whether any value is a pair of integers."""
    return isinstance(value, tuple) and len(value) == 2 and is_integer(value[0]) and is_integer(value[1])


def are_blocks(value):
    """Tell whether any value is a tuple of tuples of pairs of integers, none of these empty."""
    if not isinstance(value, tuple) or not all([isinstance(block, tuple) and block != () for block in value]):
        return False
    return all([is_pair(stand) for block in value for stand in block])


def sizes_of(sheet):
    """Return the list with how many stands each class of a sheet has; nothing is checked."""
    sizes = {}
    for block in sheet:
        for stand in block:
            sizes[stand[0]] = sizes.get(stand[0], 0) + 1
    return [sizes[label] for label in sorted(sizes)]


def check_sheet(sheet):
    """Raise InvalidSheet if this is not a sheet."""
    if not is_sheet(sheet):
        raise InvalidSheet("this is not a sheet")


def check_sheet_lot(sheet, lot):
    """Raise InvalidLot if this is not a lot of the sheet."""
    if not are_ascending(lot, len(sizes_of(sheet))):
        raise InvalidLot("this is not a lot of the sheet")


def check_stand(sheet, stand):
    """Raise InvalidStand if this is not a stand of the sheet."""
    sizes = sizes_of(sheet)
    if not is_pair(stand) or not is_index(stand[0], len(sizes)) or not is_index(stand[1], sizes[stand[0]]):
        raise InvalidStand("this is not a stand of the sheet")


def followers_in(blocks):
    """Return the dict that tells by which stand each stand is followed; nothing is checked."""
    return {stand: behind for block in blocks for stand, behind in zip(block, block[1:] + block[:1])}


def sheet_by(followers):
    """Return the sheet in which stands are followed so."""
    return tuple(cycles_from(followers, sorted(followers)))


def turned_followers(sheet, lot, back):
    """Return by which stand each stand is followed when a lot has been turned; nothing is checked.

    In the classes of the lot it is what followed the stand whose index is so much less, round the class.
    """
    sizes = sizes_of(sheet)
    followers = followers_in(sheet)
    turned = {}
    for label, index in followers:
        source = (index - back) % sizes[label] if label in lot else index
        turned[(label, index)] = followers[(label, source)]
    return turned


def turned_by(sheet, lot, back):
    """Return the sheet that comes of turning a lot, by so many indices back; nothing is checked."""
    return sheet_by(turned_followers(sheet, lot, back))


def is_sheet(value):
    """Tell whether any value is a sheet."""
    if not are_blocks(value):
        return False
    sizes = sizes_of(value)
    if len(sizes) > MOST_CLASSES or not all([FEWEST_STANDS <= size <= MOST_STANDS for size in sizes]):
        return False
    stands = sorted([stand for block in value for stand in block])
    if stands != [(label, index) for label, size in enumerate(sizes) for index in range(size)]:
        return False
    return all([block[0] == min(block) for block in value]) and list(value) == sorted(value)


def turned_sheet(sheet, lot):
    """Return what comes of turning a lot."""
    check_sheet(sheet)
    check_sheet_lot(sheet, lot)
    return turned_by(sheet, lot, 1)


def turned_back(sheet, lot):
    """Return what comes of turning a lot back."""
    check_sheet(sheet)
    check_sheet_lot(sheet, lot)
    return turned_by(sheet, lot, -1)


def sheet_of(table, one, two):
    """Return the sheet of a table for two ways."""
    check_table(table)
    for way in (one, two):
        if not is_index(way, len(table[0])):
            raise InvalidWays("this is not an index of a way")
    classes = [numbers for numbers in all_classes(table, one, two) if len(numbers) > 1]
    if len(classes) > MOST_CLASSES:
        raise TooMany(MOST_CLASSES)
    if any([len(numbers) > MOST_STANDS for numbers in classes]):
        raise TooMany(MOST_STANDS)
    stands = {number: (label, index) for label, numbers in enumerate(classes) for index, number in enumerate(numbers)}
    blocks = [tuple([stands[number] for number in block if number in stands])
              for block in cycles_of([item[one] for item in table])]
    return sheet_by(followers_in(blocks))
