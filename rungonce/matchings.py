"""Ends for numbers: each number is to hold one of the ends that it may have, each end held by one number."""


def ends_reached(ends, holders, start):
    """Return a pair: by which numbers ends are reached from a start, as a dict, and an end that nobody holds, or None.

    A number reaches all ends that it may have, and the holder of an end that is reached goes on.
    """
    reached_by = {}
    last = [start]
    while last:
        further = []
        for number in last:
            for end in ends[number]:
                if end not in reached_by:
                    reached_by[end] = number
                    if end not in holders:
                        return reached_by, end
                    further.append(holders[end])
        last = further
    return reached_by, None


def ends_passed_on(held, reached_by, free):
    """Return the ends held by numbers, as a dict, when each number on the way to a free end holds the next one."""
    passed = dict(held)
    end = free
    while end is not None:
        number = reached_by[end]
        end, passed[number] = passed.get(number), end
    return passed


def held_or_few(ends):
    """Return a pair: which end each number holds, as a dict, or None, and numbers that have too few ends, or None.

    For each number there is a tuple of the ends that it may have. The numbers are an ascending tuple.
    """
    held = {}
    for start in range(len(ends)):
        holders = {held[number]: number for number in held}
        reached_by, free = ends_reached(ends, holders, start)
        if free is None:
            return None, tuple(sorted([start] + [holders[end] for end in reached_by]))
        held = ends_passed_on(held, reached_by, free)
    return held, None
