"""Sheets of pairs: which classes are across, and what this tells of the blocks."""

from rungonce.basics import all_lots, are_ascending
from rungonce.errors import InvalidSheet
from rungonce.sheets import check_sheet_lot, is_sheet, sizes_of, turned_by
from rungonce.spans import crossing_rows, even_mask, spans_of, told_by, undone_masks


def check_sheet_of_pairs(sheet):
    """Raise InvalidSheet if this is not a sheet of pairs."""
    if not is_sheet(sheet) or len(sheet) != 1 or not all([size == 2 for size in sizes_of(sheet)]):
        raise InvalidSheet("this is not a sheet of pairs")


def rows_across(sheet, lot):
    """Return for each class of a lot the row of the classes of it that are across; nothing is checked."""
    return crossing_rows(spans_of(sheet[0], [((label, 0), (label, 1)) for label in lot]))


def across_table(sheet):
    """Return the tuple, for each class, of the ascending tuple of the classes that are across it."""
    check_sheet_of_pairs(sheet)
    labels = list(range(len(sizes_of(sheet))))
    return tuple([told_by(row, labels) for row in rows_across(sheet, labels)])


def even_lot(sheet, lot):
    """Return any even lot of a lot, or None."""
    check_sheet_of_pairs(sheet)
    check_sheet_lot(sheet, lot)
    mask = even_mask(rows_across(sheet, lot))
    return None if mask is None else told_by(mask, lot)


def is_even_lot(sheet, lot, value):
    """Tell whether any value is an even lot of a lot."""
    check_sheet_of_pairs(sheet)
    check_sheet_lot(sheet, lot)
    if not are_ascending(value, len(sizes_of(sheet))) or value == () or not all([label in lot for label in value]):
        return False
    members = [told_by(row, lot) for row in rows_across(sheet, lot)]
    return all([len([label for label in value if label in across]) % 2 == 0 for across in members])


def undone_table(sheet, lot):
    """Return the undone table of a lot, or None if it has an even lot."""
    check_sheet_of_pairs(sheet)
    check_sheet_lot(sheet, lot)
    masks = undone_masks(rows_across(sheet, lot))
    return None if masks is None else tuple([told_by(mask, lot) for mask in masks])


def unlike_lot(sheet, other):
    """Return the least lot, the shorter one first, that leaves unlike numbers of blocks in two sheets, or None."""
    check_sheet_of_pairs(sheet)
    check_sheet_of_pairs(other)
    count = len(sizes_of(sheet))
    if len(sizes_of(other)) != count:
        raise InvalidSheet("these are sheets of unlike numbers of classes")
    for lot in all_lots(count):
        if len(turned_by(sheet, lot, 1)) != len(turned_by(other, lot, 1)):
            return lot
    return None
