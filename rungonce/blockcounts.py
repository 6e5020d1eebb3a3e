"""How many blocks lots of a sheet leave when they are turned."""

from rungonce.basics import all_lots
from rungonce.sheets import check_sheet, sizes_of, turned_by


def block_counts(sheet):
    """Return the ascending list of the triples (count, how many, lot) of all numbers of blocks that lots leave.

    They tell how many lots leave so many, and which is the least of these, the shorter one first.
    """
    check_sheet(sheet)
    lots_by_count = {}
    for lot in all_lots(len(sizes_of(sheet))):
        lots_by_count.setdefault(len(turned_by(sheet, lot, 1)), []).append(lot)
    return [(count, len(lots_by_count[count]), lots_by_count[count][0]) for count in sorted(lots_by_count)]
