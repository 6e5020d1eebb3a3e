"""Slips and renamings that are told from what is heard."""

from rungonce.basics import is_index
from rungonce.errors import InvalidHeard, InvalidRows
from rungonce.leads import check_bells_and_lead
from rungonce.rows import changed_row, check_any_row, is_row, rounds_of


def check_rows(bells, lead, rows):
    """Raise the first error that applies to the bells, to a lead of so many, and to rows, one for each change."""
    check_bells_and_lead(bells, lead)
    if not isinstance(rows, tuple) or len(rows) != len(lead):
        raise InvalidRows("these are not rows, one for each change")
    if not all([is_row(row) and len(row) == bells for row in rows]):
        raise InvalidRows("these are not rows of so many bells")


def check_heard(row, heard):
    """Raise the first error that applies to a row, and to what is heard of it."""
    check_any_row(row)
    if not isinstance(heard, tuple) or len(heard) != len(row):
        raise InvalidHeard("this is not a tuple with an item for each place")
    told = [bell for bell in heard if bell is not None]
    if not all([is_index(bell, len(row)) for bell in told]) or len(set(told)) < len(told):
        raise InvalidHeard("these are not bells of the row, each once at most")


def slips_and_unheard(bells, lead, rows):
    """Return a pair: the slips that explain the first rows, and the index of the first one left, or None.

    Nothing is checked.
    """
    slips = []
    ahead = rounds_of(bells)
    for index, row in enumerate(rows):
        # Each change undoes itself: this is what was rung ahead of it, behind a slip if there was one.
        began = changed_row(row, lead[index])
        places = [place for place in range(bells - 1) if changed_row(ahead, (place,)) == began]
        if places:
            slips.append((index, places[0]))
        elif began != ahead:
            return tuple(slips), index
        ahead = row
    return tuple(slips), None


def slips_heard(bells, lead, rows):
    """Return the slips, no two of one index, by which rows are heard, or None."""
    check_rows(bells, lead, rows)
    slips, unheard = slips_and_unheard(bells, lead, rows)
    return slips if unheard is None else None


def first_unheard(bells, lead, rows):
    """Return the index of the first row that no such slips explain with those ahead of it, or None."""
    check_rows(bells, lead, rows)
    return slips_and_unheard(bells, lead, rows)[1]


def renamings_for(row, heard):
    """Return the ascending list of all renamings by which the bells that are heard do the works in a row."""
    check_heard(row, heard)
    told = {work: bell for work, bell in zip(row, heard) if bell is not None}
    others = [bell for bell in range(len(row)) if bell not in heard]
    renamings = [()]
    for work in range(len(row)):
        bells = [told[work]] if work in told else others
        renamings = [begun + (bell,) for begun in renamings for bell in bells if bell not in begun]
    return renamings
