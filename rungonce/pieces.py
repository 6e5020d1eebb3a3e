"""Pieces of tables: the numbers that can meet, from one to the next."""

from rungonce.basics import joined_lots_of
from rungonce.choices import check_table
from rungonce.classes import check_number, undone_way
from rungonce.errors import TooMany

MOST_NUMBERS = 8


def pieces_by(table, ways):
    """Return the ascending list of the pieces of the table of some of the ways; nothing is checked."""
    undone = [undone_way(table, way) for way in ways]
    led_there = [tuple([ahead[end] for ahead in undone]) for end in range(len(table))]
    return joined_lots_of(len(table), led_there)


def all_pieces(table):
    """Return the ascending list of all pieces; nothing is checked."""
    return pieces_by(table, list(range(len(table[0]))))


def count_piece(table, piece):
    """Return how many choices for the numbers of a piece let no two of them meet; nothing is checked."""
    counts = {0: 1}
    for number in piece:
        # A key has a bit for each number that is led to already.
        further = {}
        for taken in counts:
            for end in table[number]:
                if not (taken >> end) & 1:
                    key = taken | (1 << end)
                    further[key] = further.get(key, 0) + counts[taken]
        counts = further
    return sum([counts[taken] for taken in counts])


def pieces_of(table):
    """Return the ascending list of all pieces of a table."""
    check_table(table)
    return all_pieces(table)


def piece_ends(table, at):
    """Return the ascending tuple of the next ones of the piece of a number."""
    check_table(table)
    check_number(table, at)
    piece = [numbers for numbers in all_pieces(table) if at in numbers][0]
    ends = {end: True for number in piece for end in table[number]}
    return tuple(sorted(ends))


def beside_of(table, at):
    """Return the ascending list of the numbers beside a number."""
    check_table(table)
    check_number(table, at)
    return [number for number in range(len(table))
            if number != at and any([end in table[at] for end in table[number]])]


def holding_ways(table):
    """Return the ascending list of the tuples of ways that hold the pieces, and do not with any one left out."""
    check_table(table)
    pieces = all_pieces(table)
    many = len(table[0])
    # Counted through so, some of these ways come ahead of all of them.
    lots = [tuple([way for way in range(many) if (mask >> way) & 1]) for mask in range(1, 1 << many)]
    holding = []
    for ways in lots:
        # More ways than some that hold the pieces hold them, too.
        spare = any([all([way in ways for way in fewer]) for fewer in holding])
        if not spare and pieces_by(table, ways) == pieces:
            holding.append(ways)
    return sorted(holding)


def count_one(table):
    """Return how many choices of all ways are one to one."""
    check_table(table)
    ways = len(table[0])
    pieces = all_pieces(table)
    if ways > 2 and any([len(piece) > MOST_NUMBERS for piece in pieces]):
        raise TooMany(MOST_NUMBERS)
    total = 1
    for piece in pieces:
        # With one way or two, each piece goes all by one of them.
        total = total * (count_piece(table, piece) if ways > 2 else ways)
    return total
