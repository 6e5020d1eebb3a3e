"""Pairs of places round a block, which of them cross, and sums of these modulo 2.

A span is the pair of the lesser and of the greater place; no two spans have a place in common. A row is an
integer with a bit for each of some spans, in order, and so is the mask that tells some of them.
"""


def spans_of(block, pairs):
    """Return the list of the spans, round a block, of pairs of items of it."""
    places = {item: place for place, item in enumerate(block)}
    return [tuple(sorted([places[item] for item in pair])) for pair in pairs]


def do_cross(span, other):
    """Tell whether just one end of the other span stands within a span."""
    return (span[0] < other[0] < span[1]) != (span[0] < other[1] < span[1])


def crossing_rows(spans):
    """Return for each span the row of the spans that cross it."""
    return [sum([1 << at for at, other in enumerate(spans) if do_cross(span, other)]) for span in spans]


def told_by(mask, items):
    """Return the tuple of those of some items that a mask tells."""
    return tuple([item for at, item in enumerate(items) if (mask >> at) & 1])


def reduced(leads, row, mask):
    """Return what is left of a row, and its mask with what was added to it, when no lead has its length."""
    while row.bit_length() in leads:
        lead, added = leads[row.bit_length()]
        row, mask = row ^ lead, mask ^ added
    return row, mask


def leads_and_even(rows):
    """Return a pair: leads of unlike lengths, with masks of the rows whose sum they are, and an even mask, or None.

    An even mask tells rows, at least one, whose sum is 0. Without one there is a lead of each length.
    """
    leads = {}
    for at, row in enumerate(rows):
        left, mask = reduced(leads, row, 1 << at)
        if left == 0:
            return leads, mask
        leads[left.bit_length()] = (left, mask)
    return leads, None


def even_mask(rows):
    """Return the mask of some rows, at least one, whose sum is 0, or None."""
    return leads_and_even(rows)[1]


def undone_masks(rows):
    """Return, for each bit, the mask of the rows whose sum is this bit alone, or None if there is an even mask."""
    leads, even = leads_and_even(rows)
    if even is not None:
        return None
    return [reduced(leads, 1 << at, 0)[1] for at in range(len(rows))]
