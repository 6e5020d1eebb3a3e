"""One-block lots: how many pair classes they have, the fewest, and those that make a tree."""

from rungonce.basics import head_of, labels_of
from rungonce.turnlots import blocks_turned, classes_for, is_whole, paired_classes


def join_heads(heads, first, second):
    """Join what ends at two heads, and tell whether it was apart ahead of this; the heads are changed."""
    first, second = head_of(heads, first), head_of(heads, second)
    heads[second] = first
    return first != second


def turned_numbers(table):
    """Return the ascending list of the numbers of pair classes in the one-block lots of a paired table."""
    classes = paired_classes(table, [])
    if not is_whole(table):
        return []
    pairs = len([numbers for numbers in classes if len(numbers) == 2])
    full = list(range(len(classes)))
    fewest = len(blocks_turned(table, classes, ())) - 1
    most = pairs - len(blocks_turned(table, classes, full)) + 1
    return list(range(fewest, most + 1, 2))


def fewest_turned(table):
    """Return any one-block lot of a paired table with the fewest classes, or None."""
    classes = paired_classes(table, [])
    blocks = blocks_turned(table, classes, ())
    labels = labels_of(len(table), blocks)
    heads = list(range(len(blocks)))
    lot = []
    for index, numbers in enumerate(classes):
        # One class joins two blocks at most, so that the fewest make a tree of the blocks.
        if join_heads(heads, labels[numbers[0]], labels[numbers[-1]]):
            lot.append(index)
    return tuple(lot) if len(lot) == len(blocks) - 1 else None


def is_tree_lot(table, lot):
    """Tell whether a lot and the blocks of the empty lot make a tree."""
    classes = classes_for(table, [lot])
    blocks = blocks_turned(table, classes, ())
    labels = labels_of(len(table), blocks)
    heads = list(range(len(blocks)))
    joined = 0
    for index in lot:
        numbers = classes[index]
        for number in numbers[1:]:
            if not join_heads(heads, labels[numbers[0]], labels[number]):
                return False
            joined = joined + 1
    return joined == len(blocks) - 1
