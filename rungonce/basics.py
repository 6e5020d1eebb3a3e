"""What the other files share: integers, ascending tuples, and how numbers fall into cycles and lots."""


def is_integer(value):
    """Tell whether any value is an integer; a bool is none."""
    return isinstance(value, int) and not isinstance(value, bool)


def is_index(value, count):
    """Tell whether any value is an integer from 0 on and below the count."""
    return is_integer(value) and 0 <= value < count


def are_indices(value, count):
    """Tell whether any value is a tuple of integers from 0 on and below the count."""
    return isinstance(value, tuple) and all([is_index(item, count) for item in value])


def are_ascending(value, count):
    """Tell whether any value is an ascending tuple of integers from 0 on and below the count."""
    return are_indices(value, count) and all([low < high for low, high in zip(value, value[1:])])


def cycle_from(steps, start):
    """Return the tuple of the numbers to which the steps lead from a start, till it comes again."""
    cycle = [start]
    at = steps[start]
    while at != start:
        cycle.append(at)
        at = steps[at]
    return tuple(cycle)


def cycles_from(steps, starts):
    """Return the cycles of one to one steps that hold some starts, each begun with its first start, in their order."""
    seen = {}
    cycles = []
    for start in starts:
        if start not in seen:
            cycle = cycle_from(steps, start)
            cycles.append(cycle)
            for number in cycle:
                seen[number] = True
    return cycles


def cycles_of(steps):
    """Return the cycles of one to one steps, each begun with its least number, ascending."""
    return cycles_from(steps, list(range(len(steps))))


def undone_steps(steps):
    """Return the list that tells, for each number, which one the one to one steps lead there."""
    ahead = [0] * len(steps)
    for number, end in enumerate(steps):
        ahead[end] = number
    return ahead


def lots_alike(labels):
    """Return the ascending list of the ascending tuples of all numbers with one label."""
    lots = {}
    for number, label in enumerate(labels):
        lots.setdefault(label, []).append(number)
    return [tuple(lots[label]) for label in lots]


def head_of(heads, number):
    """Return the number at which the heads end that begin with this number's."""
    while heads[number] != number:
        number = heads[number]
    return number


def joined_lots_of(count, lots):
    """Return the least lots of so many numbers that hold each given lot in one of them, ascending."""
    heads = list(range(count))
    for lot in lots:
        for number in lot:
            first, second = head_of(heads, lot[0]), head_of(heads, number)
            # The lesser head stays, and the numbers met are set to it, so that the ways to heads stay short.
            heads[max(first, second)] = min(first, second)
            heads[lot[0]] = heads[number] = min(first, second)
    return lots_alike([head_of(heads, number) for number in range(count)])


def labels_of(count, lots):
    """Return the list that tells, for each of so many numbers, the index of the lot that holds it."""
    labels = [0] * count
    for label, lot in enumerate(lots):
        for number in lot:
            labels[number] = label
    return labels


def all_lots(count):
    """Return the list of all ascending tuples of numbers below a count: the shorter first, then in Python's order."""
    last = [()]
    lots = [()]
    while last:
        last = [lot + (number,) for lot in last for number in range(lot[-1] + 1 if lot else 0, count)]
        lots.extend(last)
    return lots


def first_unlike(numbers, labels):
    """Return the pair of the first of some numbers and of the next one with another label, or None."""
    for number in numbers:
        if labels[number] != labels[numbers[0]]:
            return numbers[0], number
    return None
