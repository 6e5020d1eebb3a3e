"""All lots of few classes, by how many blocks they have."""

from rungonce.basics import all_lots
from rungonce.errors import TooMany
from rungonce.turnlots import blocks_turned, classes_for

MOST_SEARCHED = 12


def counted_lots(table):
    """Return the list of the pairs of a lot and of how many blocks it has: the shorter lots first, then in order."""
    classes = classes_for(table, [])
    if len(classes) > MOST_SEARCHED:
        raise TooMany(MOST_SEARCHED)
    return [(lot, len(blocks_turned(table, classes, lot))) for lot in all_lots(len(classes))]


def one_block_lots(table):
    """Return the ascending list of all one-block lots."""
    return sorted([lot for lot, count in counted_lots(table) if count == 1])


def lots_by_blocks(table):
    """Return the list with the number of lots of each number of blocks, from 1 to the greatest one that comes."""
    counts = [count for _, count in counted_lots(table)]
    return [counts.count(blocks) for blocks in range(1, max(counts) + 1)]


def least_lot(table):
    """Return the first one, in Python's order, of the one-block lots with the fewest classes, or None."""
    found = [lot for lot, count in counted_lots(table) if count == 1]
    return found[0] if found else None
