"""Pair classes that cross round the block of a one-block lot, and what is told by them."""

from rungonce.spans import crossing_rows, do_cross, even_mask, spans_of, told_by
from rungonce.turnlots import blocks_turned, check_one_block, paired_classes


def spans_for(table, classes, lot, indices):
    """Return the spans of pair classes, by their indices, round the block of a one-block lot; nothing is checked."""
    return spans_of(blocks_turned(table, classes, lot)[0], [classes[index] for index in indices])


def differing(classes, lot, other):
    """Return the ascending list of the indices of the pair classes in which two lots differ; nothing is checked."""
    in_lot = {index: True for index in lot}
    in_other = {index: True for index in other}
    return [index for index, numbers in enumerate(classes)
            if len(numbers) == 2 and (index in in_lot) != (index in in_other)]


def with_turned(lot, pair):
    """Return the lot that comes of turning two classes."""
    return tuple(sorted([index for index in lot if index not in pair] + [index for index in pair if index not in lot]))


def crossing_pairs(table, lot):
    """Return the ascending list of the pairs of indices, the lesser one first, of classes that cross."""
    classes = paired_classes(table, [lot])
    check_one_block(table, classes, lot)
    indices = [index for index, numbers in enumerate(classes) if len(numbers) == 2]
    spans = spans_for(table, classes, lot, indices)
    return [(first, second) for at, first in enumerate(indices) for second, span in zip(indices, spans)
            if first < second and do_cross(spans[at], span)]


def even_turning(table, lot, other):
    """Return any even turning, for a one-block lot and another lot, or None."""
    classes = paired_classes(table, [lot, other])
    check_one_block(table, classes, lot)
    indices = differing(classes, lot, other)
    mask = even_mask(crossing_rows(spans_for(table, classes, lot, indices)))
    return None if mask is None else told_by(mask, indices)


def turning_road(table, lot, other):
    """Return any list of pairs of classes that, turned pair by pair, lead a one-block lot to another one.

    It has half as many pairs as the lots differ in pair classes, and each lot between has one block.
    """
    classes = paired_classes(table, [lot, other])
    check_one_block(table, classes, lot)
    check_one_block(table, classes, other)
    road = []
    indices = differing(classes, lot, other)
    while indices:
        # As both lots have one block, the first class is crossed by some other one: turned, both leave one block.
        spans = spans_for(table, classes, lot, indices)
        mate = [index for index, span in zip(indices, spans) if do_cross(spans[0], span)][0]
        road.append((indices[0], mate))
        lot = with_turned(lot, (indices[0], mate))
        indices = [index for index in indices if index not in road[-1]]
    return road
