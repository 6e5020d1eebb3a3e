"""What the tests share: values of all kinds, tables, rows, and checks of the errors."""

import itertools
import random

from rungonce.conductors import Conductor
from rungonce.errors import InvalidText, OnceError, TooMany


def nested(depth):
    value = ()
    for _ in range(depth):
        value = (value,)
    return value


HUGE = 10 ** 120 - 1

# Of every kind that an argument may be, and never an integer from 0 to 719, a row, a lead or a table.
ODD_VALUES = [
    True, False, None, -1, -HUGE, HUGE, "", "0", "x", "(0, 1)", "a" * 4000, [], [0], [0, 1], [[0]], [(0, 1)],
    (True,), (False, True), (0, True), ("0", "1"), (None,), (None, None), ([0, 1],), ((0, 1), [1, 0]), (HUGE,),
    (-1, 0), (0, -1), nested(100), [nested(99)], (0,) * 1000, ((),) * 1000, OnceError(), TooMany(8), InvalidText(0),
    Conductor(4, ((0,),), ()), (Conductor(4, ((0,),), ()),), [Conductor(2, ((),), ())],
]

ODD_INTEGERS = [True, False, None, -1, -HUGE, HUGE, "", "0", [], [0], (), (0,), OnceError(), Conductor(2, ((),), ())]

ODD_BELLS = ODD_INTEGERS + [0, 1, 7, "3", (3,), [3]]

BAD_TABLES = ODD_VALUES + [(), 0, ((),), ((0, 0), (0, 1)), ((0,), (1, 1)), [(0,)], [(0, 0)], ([0],), ([0, 0],),
                           ((0, False),), ((0,) * 7,)]
NOT_TWO = [((0,),), ((0, 0, 0),), tuple((at,) * 6 for at in range(720)), ((1,), (0,))]

# For a table of six numbers and two ways.
BAD_CHOICES = ODD_VALUES + [(), 0, (0,) * 5, [0] * 6, (0,) * 7, (0, 0, 0, 0, 0, 2), (True,) * 6, (0, 0, 0, 0, 0, None)]
BAD_TOLD = ODD_VALUES + [0, (0, 1), [(0, 1)], ([0, 1],), ((0,),), ((0, 1, 0),), ((0, 2),), ((6, 0),), ((-1, 0),),
                         ((0, -1),), ((0, 1), (0, 1)), ((1, 0), (0, 0)), ((0, True),), ((False, 0),), ((0, None),),
                         ("01",), (((0,), 1),), ((0, 1), None), ((0, HUGE),), ((HUGE, 0),), ((0, 1),) * 1000, "01"]

# No lots of whatever there is; then none of three classes.
NO_LOTS = ODD_VALUES + [0, (0, 720), (1, 0), (0, 0), [0], ([0],), ("0",), (2, 1, 0), ((0,), (1,)), (0, None), "01",
                        (0, HUGE), (0, True), (0, 1, 1)]
BAD_LOTS = NO_LOTS + [(3,), (0, 3), (0, 1, 2, 3)]

# For a table of six numbers.
BAD_NUMBER_LOTS = NO_LOTS + [(6,), (0, 6), (0, 1, 2, 3, 4, 5, 6)]

# For four bells; among the odd values there is ((),) * 1000, a lead in all but its length.
BAD_LEADS = ODD_VALUES + [(), 0, ((),) * 25, ((0,), (3,)), ((0, 1),), [(0,)], ((0,), [1]), ((0,), None), ((True,),),
                          ((0,), (False,)), (0,), ((0,), 1), (((0,),),), "x", ("0",), ((-1,),), ((2, 0),)]
BAD_WAYS = ODD_VALUES + [(), 0, (((0,),),) * 7, [((0,),)], (((0,),), ()), (((3,),),), (((),), ((0, 1),)), ((0,),),
                         ([(0,)],), (((0,),), None), (((True,),),), ((((0,),),),), (((),) * 25,)]
# For two ways of four bells.
BAD_COURSES = ODD_VALUES + [0, (2,), (0, 2), (0,) * 801, [0, 1], (0, -1), (0, False), (0, None), "01", ((0,),),
                            (0, HUGE)]
BAD_INDICES = ODD_INTEGERS + [2, 6, (1,), "1"]
# Other bells' rows, and what is none.
BAD_RENAMINGS = ODD_VALUES + [(), 0, (0, 1, 2), (0, 1, 2, 3, 4), [0, 1, 2, 3], (0, 1, 2, 2), (0, True, 2, 3), "0123",
                              (1, 2, 3, 4), (0, 1, 2, None), (0, 1, 2, (3,)), (-1, 0, 1, 2)]
BAD_BELL = ODD_INTEGERS + [4, 6, (1,), "1"]
BAD_MANY = ODD_INTEGERS + [0, 25, "1", (1,)]
# For two calls; no calls at all are fine.
BAD_CALLS = ODD_VALUES + [0, ((),) * 6, [()], ((0,), [1]), (0,), ((3,),), ((False,),), ((0, 1),), ("0",), (((0,),),)]
BAD_COMPOSITIONS = ODD_VALUES + [0, (0,) * 41, (3,), (0, -1), [0, 1], (0, False), "01", ((0,),)]

BAD_TOURS = ODD_VALUES + [
    (), 0, (4, ((0,),), ()), (4, ((0,),), (), (), ()), [4, ((0,),), (), ()], (1, ((0,),), (), ()), (7, ((0,),), (), ()),
    (True, ((0,),), (), ()), ("4", ((0,),), (), ()), (None, ((0,),), (), ()), (4, (), (), ()), (4, [(0,)], (), ()),
    (4, ((3,),), (), ()), (4, ((),) * 25, (), ()), (4, None, (), ()), (4, ((0,),), ((),) * 6, ()), (4, ((0,),), [], ()),
    (4, ((0,),), ((3,),), ()), (4, ((0,),), None, ()), (4, ((0,),), ((0, 1),), ()), (4, ((0,),), (), (1,)),
    (4, ((0,),), (), (0,) * 41), (4, ((0,),), (), [0]), (4, ((0,),), (), (False,)), (4, ((0,),), ((),), (0, -1)),
    (4, ((0,),), ((),), (0, 2)), (4, ((0,),), (), None), (4, ((0,),), ((),), "01"), (HUGE, ((0,),), (), ()), "4",
    (((0,),), 4, (), ()), ((4,), ((0,),), (), ()), (4, ((0,),), (), ((0,),)),
]

BAD_SHEETS = ODD_VALUES + [
    0, ((),), (((0, 0), (0, 1)), ()), [((0, 0), (0, 1))], ([(0, 0), (0, 1)],), (([0, 0], [0, 1]),), ((0, 0), (0, 1)),
    (((0, 0),),), (((0, 0), (0, 2)),), (((0, 1), (0, 2)),), (((1, 0), (1, 1)),), (((0, 0), (0, 1), (2, 0), (2, 1)),),
    (((0, 1), (0, 0)),), (((0, 1),), ((0, 0),)), (((0, 0), (0, 1), (1, 0)),), (((0, 0), (0, 0)),),
    (((0, 0), (0, 1)), ((0, 0), (0, 1))), (((0, 0), (0, 1)), ((0, 1), (0, 2))), (((0, 0), (0, 1), (0, 0)),),
    (((0, 0), (1, 1)), ((1, 0), (0, 1))), (((1, 0), (1, 1)), ((0, 0), (0, 1))), (((False, 0), (0, 1)),),
    (((0, 0), (0, True)),), (((0, 0, 0), (0, 1, 0)),), (((0,), (1,)),), (("00", "01"),), ((None, (0, 1)),),
    (((0, 0), (0, 1)), None), (((0, 0), (0, "1")),), (((0, 0), (0, None)),), (((0, 0), (HUGE, 0)),),
    (((0, -1), (0, 0)),), (((-1, 0), (-1, 1)),), (((-1, 0), (-1, 1), (0, 0), (0, 1)),), ((((0, 0), (0, 1)),),),
    (tuple((0, index) for index in range(7)),), (tuple((label, index) for label in range(11) for index in range(2)),),
    (tuple((0, index) for index in range(1000)),), "(((0, 0), (0, 1)),)",
]


def all_rows(bells):
    return sorted(itertools.permutations(range(bells)))


def all_changes(bells):
    """All changes, found otherwise than the package does: from all sets of places."""
    found = []
    for many in range(bells):
        for places in itertools.combinations(range(bells - 1), many):
            if all(high - low > 1 for low, high in zip(places, places[1:])):
                found.append(places)
    return sorted(found)


def ring(row, lead):
    """The rows that a lead rings, by exchanging the bells by name."""
    rows = []
    for change in lead:
        at = {place: bell for place, bell in enumerate(row)}
        for place in change:
            at[place], at[place + 1] = row[place + 1], row[place]
        row = tuple(at[place] for place in range(len(row)))
        rows.append(row)
    return rows


def some_lead(dice, bells, most):
    changes = all_changes(bells)
    return tuple(dice.choice(changes) for _ in range(dice.randint(1, most)))


def some_ways(dice, bells):
    ways = [some_lead(dice, bells, 5) for _ in range(dice.randint(1, 6))]
    if len(ways) > 1 and dice.random() < 0.2:
        ways[1] = ways[0]
    return tuple(ways)


def group_by_hand(bells, ways):
    rows = {tuple(range(bells))}
    while True:
        more = {ring(row, way)[-1] for row in rows for way in ways} | rows
        if more == rows:
            return tuple(sorted(rows))
        rows = more


def all_leads(bells, many):
    return list(itertools.product(all_changes(bells), repeat=many))


def path_by_hand(bells, lead, bell):
    return (bell,) + tuple(row.index(bell) for row in ring(tuple(range(bells)), lead))


def held_by_hand(row, lead):
    return [row] + ring(row, lead)[:-1]


def heads_by_hand(bells, ways, course):
    heads = [tuple(range(bells))]
    for way in course:
        heads.append(ring(heads[-1], ways[way])[-1])
    return heads


def held_in_course(bells, ways, course):
    return [held_by_hand(head, ways[way]) for head, way in zip(heads_by_hand(bells, ways, course), course)]


def meets_by_hand(bells, ways, course):
    held = [set(rows) for rows in held_in_course(bells, ways, course)]
    return [(place, later) for place, later in itertools.combinations(range(len(held)), 2)
            if not held[place].isdisjoint(held[later])]


def spoilt_by_hand(bells, ways):
    held = [held_by_hand(tuple(range(bells)), lead) for lead in ways]
    return [way for way, rows in enumerate(held) if len(set(rows)) < len(rows)]


def ways_by_hand(lead, calls):
    return tuple(lead[:-1] + (last,) for last in lead[-1:] + calls)


def some_method(dice, bells, most):
    lead = some_lead(dice, bells, most)
    return bells, lead, tuple(dice.choice(all_changes(bells)) for _ in range(dice.randint(0, 5)))


def some_tour(dice, bells, most, leads):
    method = some_method(dice, bells, most)
    return method + (tuple(dice.randint(0, len(method[2])) for _ in range(leads)),)


def rows_by_hand(tour):
    """The rows of a tour, rounds ahead of all."""
    bells, lead, calls, composition = tour
    ways = ways_by_hand(lead, calls)
    rows = [tuple(range(bells))]
    for way in composition:
        rows += ring(rows[-1], ways[way])
    return rows


def fault_by_hand(rows):
    """What makes rows, rounds ahead of all, untrue, found pair by pair."""
    for later in range(len(rows)):
        for earlier in range(later):
            if rows[earlier] == rows[later] and (earlier, later) != (0, len(rows) - 1):
                return later - 1, earlier - 1
    return None


def renaming_by_hand(bells, lead, slips, renaming=None):
    """Who does which work behind slips, told by name: each bell keeps a work, until it takes another one's."""
    work_of = {bell: work for work, bell in enumerate(renaming or range(bells))}
    rows = [tuple(range(bells))] + ring(tuple(range(bells)), lead)
    for index, place in slips:
        work, mate = rows[index][place:place + 2]
        work_of = {bell: {work: mate, mate: work}.get(old, old) for bell, old in work_of.items()}
    return tuple(sorted(work_of, key=work_of.get))


def some_slips(dice, bells, lead, most):
    return tuple(sorted(((dice.randrange(len(lead)), dice.randrange(bells - 1)) for _ in range(dice.randint(0, most))),
                        key=lambda slip: slip[0]))


def all_slips(bells, lead, many):
    """All slips of a lead that are so many."""
    slips = [(index, place) for index in range(len(lead)) for place in range(bells - 1)]
    return [found for found in itertools.product(slips, repeat=many)
            if all(slip[0] <= later[0] for slip, later in zip(found, found[1:]))]


def some_table(dice, count, ways):
    columns = []
    for _ in range(ways):
        column = list(range(count))
        dice.shuffle(column)
        columns.append(column)
    return tuple(zip(*columns))


def some_tables(seed, many, most_numbers, most_ways, ways=None):
    """Tables by a fixed seed; some with a way that leads as another one, or nearly so."""
    dice = random.Random(seed)
    tables = []
    for _ in range(many):
        table = some_table(dice, dice.randint(1, most_numbers), ways or dice.randint(1, most_ways))
        if dice.random() < 0.3 and len(table[0]) > 1:
            table = tuple(item[:-1] + (item[0],) for item in table)
        if dice.random() < 0.4 and len(table) > 1 and len(table[0]) > 1:
            column = [item[0] for item in table]
            column[0], column[1] = column[1], column[0]
            table = tuple(item[:-1] + (end,) for item, end in zip(table, column))
        tables.append(table)
    return tables


def turning_table(dice, sizes):
    """A table of two ways, the first one by a throw of dice, with classes of these sizes."""
    count = sum(sizes)
    first, order = list(range(count)), list(range(count))
    dice.shuffle(first)
    dice.shuffle(order)
    second, at = list(first), 0
    for size in sizes:
        numbers = order[at:at + size]
        for number, other in zip(numbers, numbers[1:] + numbers[:1]):
            second[other] = first[number]
        at += size
    return tuple(zip(first, second))


def paired_tables(seed, many, most_pairs, most_alone):
    """Paired tables; some of them are not whole."""
    dice = random.Random(seed)
    tables = []
    for _ in range(many):
        pairs, alone = dice.randint(0, most_pairs), dice.randint(0, most_alone)
        tables.append(turning_table(dice, [2] * pairs + [1] * (alone if pairs + alone else 1)))
    return tables


def turned_by_hand(table, numbers):
    """How many blocks there are when just these numbers go by the way 1."""
    left, count = set(range(len(table))), 0
    while left:
        number, count = min(left), count + 1
        while number in left:
            left.remove(number)
            number = table[number][1 if number in numbers else 0]
    return count


def two_way_choices(count):
    return itertools.product((0, 1), repeat=count)


def all_choices(table):
    return itertools.product(range(len(table[0])), repeat=len(table))


def all_told(count, many):
    """Told ways of all kinds for so many numbers and ways."""
    for ways in itertools.product(tuple(range(many)) + (None,), repeat=count):
        yield tuple((number, way) for number, way in enumerate(ways) if way is not None)


def ones_of(table):
    return [choice for choice in all_choices(table) if is_one(table, choice)]


def having(choices, told):
    return [choice for choice in choices if all(choice[number] == way for number, way in told)]


def all_lots_by_length(count):
    return [lot for many in range(count + 1) for lot in itertools.combinations(range(count), many)]


def is_one(table, choice):
    return len({item[way] for item, way in zip(table, choice)}) == len(table)


def by_hand(sheet):
    """What each stand of a sheet is followed by."""
    return {block[at]: block[(at + 1) % len(block)] for block in sheet for at in range(len(block))}


def written(followers):
    """The blocks, or rings, or classes, in which stands, or numbers, are followed so."""
    left, blocks = sorted(followers), []
    while left:
        block = [left[0]]
        while followers[block[-1]] != block[0]:
            block.append(followers[block[-1]])
        left = [item for item in left if item not in block]
        blocks.append(tuple(block))
    return tuple(blocks)


def size_in(sheet, label):
    return len([stand for block in sheet for stand in block if stand[0] == label])


def count_classes(sheet):
    return len({stand[0] for block in sheet for stand in block})


def turn(sheet, lot):
    """The sheet behind turning a lot, word by word."""
    old = by_hand(sheet)
    behind = dict(old)
    for label in lot:
        size = size_in(sheet, label)
        for index in range(size):
            behind[(label, index)] = old[(label, index - 1 if index > 0 else size - 1)]
    return written(behind)


def some_sheet(dice, sizes, blocks=None):
    """A sheet with classes of these sizes, by a throw of dice, with one block or with any number of them."""
    stands = [(label, index) for label, size in enumerate(sizes) for index in range(size)]
    order = list(stands)
    dice.shuffle(order)
    if blocks == 1:
        return written(dict(zip(order, order[1:] + order[:1])))
    return written(dict(zip(stands, order)))


def some_sheets(seed, many, most_classes, most_stands=6, blocks=None):
    dice = random.Random(seed)
    sheets = []
    for _ in range(many):
        count = dice.randint(0 if blocks is None else 1, most_classes)
        sheets.append(some_sheet(dice, [dice.randint(2, most_stands) for _ in range(count)], blocks))
    return sheets


def outcome(function, *arguments):
    """What a function returns, or the class of the error that it raises."""
    try:
        return function(*arguments)
    except OnceError as error:
        return type(error)


def check_limit(test, limit, function, *arguments):
    """TooMany must be raised with this limit."""
    with test.assertRaises(TooMany) as caught:
        function(*arguments)
    test.assertEqual(caught.exception.limit, limit)


def check_errors(test, function, good, faults):
    """Each argument must be refused by its error, whatever stands behind it, good or not.

    The faults are, for each argument, a pair (values, error), or None where all values are good.
    """
    test.assertFalse(isinstance(outcome(function, *good), type), (function, good))
    for at, fault in enumerate(faults):
        if fault is None:
            continue
        values, error = fault
        behind = [[right] + (later[0][:2] if later else []) for right, later in
                  zip(good[at + 1:], faults[at + 1:])]
        for value in values:
            for rest in itertools.product(*behind):
                arguments = tuple(good[:at]) + (value,) + rest
                test.assertIs(outcome(function, *arguments), error, (function.__name__, arguments))


def check_new_list(test, function, *arguments):
    """A returned list is new, and what the caller does to it changes nothing."""
    first = function(*arguments)
    test.assertIsInstance(first, list)
    kept = list(first)
    first.append("more")
    test.assertEqual(function(*arguments), kept)
