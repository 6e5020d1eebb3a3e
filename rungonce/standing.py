"""Which stands of a sheet stand in one block when a lot is turned."""

from rungonce.basics import all_lots, cycle_from
from rungonce.sheets import check_sheet, check_sheet_lot, check_stand, sizes_of, turned_followers


def are_together(sheet, lot, stand, mate):
    """Tell whether two stands stand in one block when a lot is turned; nothing is checked."""
    return mate in cycle_from(turned_followers(sheet, lot, 1), stand)


def first_lot(sheet, stand, mate, together):
    """Return the least lot, the shorter one first, for which two stands do so or do not, or None."""
    check_sheet(sheet)
    check_stand(sheet, stand)
    check_stand(sheet, mate)
    for lot in all_lots(len(sizes_of(sheet))):
        if are_together(sheet, lot, stand, mate) == together:
            return lot
    return None


def stand_together(sheet, lot, stand, mate):
    """Tell whether two stands stand in one block when a lot is turned."""
    check_sheet(sheet)
    check_sheet_lot(sheet, lot)
    check_stand(sheet, stand)
    check_stand(sheet, mate)
    return are_together(sheet, lot, stand, mate)


def together_lot(sheet, stand, mate):
    """Return the least lot, the shorter one first, for which two stands stand in one block, or None."""
    return first_lot(sheet, stand, mate, True)


def apart_lot(sheet, stand, mate):
    """Return the least lot, the shorter one first, for which two stands stand in two blocks, or None."""
    return first_lot(sheet, stand, mate, False)
