"""The most numbers of a lot that can be served, and the price papers that show that no more can be.

Here a lot is dealt with by the places of its numbers in it. Each number is led to one of them, no two to the
same: by a way, which is worth 1, or to its own place, left out, which is worth 0.
"""

from rungonce.basics import cycle_from, is_integer, undone_steps
from rungonce.choices import check_table
from rungonce.errors import TooMany
from rungonce.lots import check_number_lot
from rungonce.matchings import held_or_few

MOST_PRICED = 60


def ends_within(table, lot):
    """Return, for each number of a lot, the tuple of the places of those of it to which the ways lead.

    Raise the first error that applies to a table and a lot for it of a size that can be dealt with.
    """
    check_table(table)
    check_number_lot(table, lot)
    if len(lot) > MOST_PRICED:
        raise TooMany(MOST_PRICED)
    places = {number: place for place, number in enumerate(lot)}
    return [tuple([places[end] for end in table[number] if end in places]) for number in lot]


def worth(ends, place, end):
    """Return what it is worth that the number at a place is led to an end."""
    return 1 if end in ends[place] else 0


def gains_by(ends, led):
    """Return, for each place, the list of the pairs (holder, gain) for all ends that its number could have.

    The holder is the place whose number has the end; the gain is what comes of taking this over from it.
    """
    holders = undone_steps(led)
    return [[(holders[end], worth(ends, place, end) - worth(ends, holders[end], end))
             for end in ends[place] + (place,)] for place in range(len(ends))]


def prices_or_ring(gains):
    """Return a pair: the most that can be gained from each place on, as a list, or None, and a ring, or None.

    In the ring each place takes over the end of the next one, the last one that of the first, with a gain.
    """
    prices = [0] * len(gains)
    taken_from = list(range(len(gains)))
    raised = None
    for _ in range(len(gains) + 1):
        raised = None
        for place, pairs in enumerate(gains):
            for holder, gain in pairs:
                if prices[holder] + gain > prices[place]:
                    prices[place] = prices[holder] + gain
                    taken_from[place] = holder
                    raised = place
        if raised is None:
            return prices, None
    # Without a ring that gains, no price is raised so late; who follows it far enough is in the ring.
    for _ in gains:
        raised = taken_from[raised]
    return None, cycle_from(taken_from, raised)


def best_led(ends):
    """Return a pair of lists: where each number is led, so that most are served, and the prices that show this."""
    led = list(range(len(ends)))
    prices, ring = prices_or_ring(gains_by(ends, led))
    while ring is not None:
        taken = [led[holder] for holder in ring[1:] + ring[:1]]
        for place, end in zip(ring, taken):
            led[place] = end
        prices, ring = prices_or_ring(gains_by(ends, led))
    return led, prices


def most_served(table, lot):
    """Return any pair of a part of a lot, with as many numbers as there can be, and of a choice that serves it."""
    ends = ends_within(table, lot)
    led = best_led(ends)[0]
    places = [place for place, end in enumerate(led) if worth(ends, place, end) == 1]
    part = tuple([lot[place] for place in places])
    return part, tuple([table[lot[place]].index(lot[led[place]]) for place in places])


def price_paper(table, lot):
    """Return any price paper whose sum is the most numbers of a lot that can be served."""
    ends = ends_within(table, lot)
    led, prices = best_led(ends)
    coming = [worth(ends, holder, end) - prices[holder] for end, holder in enumerate(undone_steps(led))]
    return tuple(prices), tuple(coming)


def is_price_paper(table, lot, value):
    """Tell whether any value is a price paper of a lot."""
    ends = ends_within(table, lot)
    if not isinstance(value, tuple) or len(value) != 2:
        return False
    for prices in value:
        if not isinstance(prices, tuple) or len(prices) != len(lot) or not all([is_integer(item) for item in prices]):
            return False
    going, coming = value
    return all([going[place] + coming[end] >= worth(ends, place, end)
                for place in range(len(lot)) for end in ends[place] + (place,)])


def too_few(table, lot):
    """Return any part of a lot with too few ends, or None."""
    few = held_or_few(ends_within(table, lot))[1]
    return None if few is None else tuple([lot[place] for place in few])
