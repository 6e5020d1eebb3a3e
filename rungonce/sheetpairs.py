"""Pairs of a sheet with one block: classes of two stands in the place of greater ones."""

from rungonce.errors import InvalidSheet, TooMany
from rungonce.sheets import MOST_CLASSES, is_sheet, sizes_of


def pair_stands(sizes):
    """Return a dict with, for each stand of classes of such sizes, the tuple of the stands in its place."""
    stands = {}
    first = 0
    for label, size in enumerate(sizes):
        pairs = list(range(first, first + size - 1))
        stands[(label, 0)] = tuple([(pair, 0) for pair in pairs])
        for index in range(1, size):
            stands[(label, index)] = ((pairs[size - 1 - index], 1),)
        first = first + size - 1
    return stands


def sheet_pairs(sheet):
    """Return the pairs of a sheet with one block."""
    if not is_sheet(sheet) or len(sheet) != 1:
        raise InvalidSheet("this is not a sheet with one block")
    sizes = sizes_of(sheet)
    if sum(sizes) - len(sizes) > MOST_CLASSES:
        raise TooMany(MOST_CLASSES)
    stands = pair_stands(sizes)
    return (tuple([pair for stand in sheet[0] for pair in stands[stand]]),)
