"""Promises [65] and [66]: stretches, whole rings, forced ways, and what two ways serve with the rest."""

import itertools
import unittest

from rungonce.errors import InvalidLot, InvalidPair, InvalidTable
from rungonce.groups import table_of
from rungonce.lots import does_serve
from rungonce.stretches import (forced_ways, is_rest_served, odd_stretch, stretches_of, unlike_stretches,
                                whole_rings)
from samples import (BAD_NUMBER_LOTS, BAD_TABLES, ODD_INTEGERS, all_lots_by_length, check_errors, check_new_list,
                     outcome, some_tables)

T = table_of(3, (((0,),), ((1,),)))
FUNCTIONS = (stretches_of, odd_stretch, whole_rings, forced_ways, is_rest_served, unlike_stretches)


def beside(table, one, other):
    """For each side, all sides beside it."""
    sides = {(kind, number): [] for kind in (0, 1) for number in range(len(table))}
    for number, item in enumerate(table):
        for end in sorted({item[one], item[other]}):
            sides[(0, number)].append((1, end))
            sides[(1, end)].append((0, number))
    return sides


def joined(sides, chosen):
    """The chosen sides, in lots of those that hang together."""
    left, lots = sorted(chosen), []
    while left:
        lot = [left[0]]
        for side in lot:
            lot += [more for more in sides[side] if more in left and more not in lot]
        left = [side for side in left if side not in lot]
        lots.append(lot)
    return lots


def as_stretch(sides, lot):
    """The sides of a stretch in order, by trying from which of them one comes along to all others."""
    found = []
    for start in lot:
        stretch = [start]
        while True:
            more = [side for side in sides[stretch[-1]] if side in lot and side not in stretch]
            if not more:
                break
            stretch.append(more[0])
        if len(stretch) == len(lot):
            found.append(tuple(stretch))
    return min(found)


def rings_by_hand(table, lot, one, other):
    """The numbers that go in whole rings, and a list of the stretches of each other ring."""
    sides = beside(table, one, other)
    whole, parted = [], []
    for ring in joined(sides, list(sides)):
        within = [side for side in ring if side[1] in lot]
        if len(within) == len(ring):
            whole.append(tuple(sorted(number for kind, number in ring if kind == 0)))
        else:
            parted.append([as_stretch(sides, part) for part in joined(sides, within)])
    return sorted(whole), parted


def serving(table, lot, one, other):
    return [choice for choice in itertools.product((one, other), repeat=len(lot)) if does_serve(table, lot, choice)]


def pairs_of_ways(table):
    return itertools.permutations(range(len(table[0])), 2)


def forced_by_hand(choices, lot):
    if not choices:
        return None
    return tuple(choices[0][at] if all(choice[at] == choices[0][at] for choice in choices) else None
                 for at in range(len(lot)))


def unlike_by_hand(lot, choices, parted):
    if not choices:
        return None
    forced = dict(zip(lot, forced_by_hand(choices, lot)))
    pairs = []
    for stretches in parted:
        ways = {stretch: {forced[number] for kind, number in stretch if kind == 0} for stretch in stretches}
        pairs += [pair for pair in itertools.product(stretches, repeat=2)
                  if pair[0] < pair[1] and ways[pair[0]] != ways[pair[1]]]
    return min(pairs, default=None)


class Stretches(unittest.TestCase):
    def test_examples(self):
        self.assertEqual(
            [stretches_of(T, (0, 2, 3), 0, 1), odd_stretch(T, (0, 2, 3), 0, 1), forced_ways(T, (0, 2, 3, 5), 0, 1),
             forced_ways(T, (0, 2, 3), 0, 1)],
            [[((0, 0), (1, 2), (0, 3)), ((1, 0), (0, 2), (1, 3))], ((0, 0), (1, 2), (0, 3)), (0, 0, 0, 0), None])
        self.assertEqual([whole_rings(T, (0, 1, 2, 3, 4, 5), 0, 1), whole_rings(T, (0, 2), 0, 1)],
                         [[(0, 3, 4), (1, 2, 5)], []])
        self.assertEqual(
            [is_rest_served(T, (0, 2), 0, 1), is_rest_served(T, (0, 2, 4, 5), 0, 1),
             unlike_stretches(T, (0, 2, 4, 5), 0, 1)],
            [True, False, (((0, 0), (1, 2)), ((0, 4), (1, 5)))])

    def check_lot(self, table, lot, one, other):
        whole, parted = rings_by_hand(table, lot, one, other)
        stretches = sorted(stretch for some in parted for stretch in some)
        odd = [stretch for stretch in stretches if len(stretch) % 2 == 1]
        choices = serving(table, lot, one, other)
        self.assertEqual(stretches_of(table, lot, one, other), stretches)
        self.assertEqual(odd_stretch(table, lot, one, other), odd[0] if odd else None)
        self.assertEqual(whole_rings(table, lot, one, other), whole)
        self.assertEqual(forced_ways(table, lot, one, other), forced_by_hand(choices, lot))
        # What serves a lot: nothing if there is an odd stretch, otherwise one or the other way round each whole ring.
        self.assertEqual(len(choices), 0 if odd else 2 ** len(whole))
        self.assertEqual(unlike_stretches(table, lot, one, other), unlike_by_hand(lot, choices, parted))
        return len(choices)

    def test_all_lots_of_small_tables(self):
        served = []
        for table in some_tables(65, 60, 6, 3):
            for one, other in pairs_of_ways(table):
                for lot in all_lots_by_length(len(table)):
                    served.append(self.check_lot(table, lot, one, other))
        self.assertGreater(served.count(0), 500)
        self.assertGreater(len(served) - served.count(0), 300)

    def test_tables_of_ways(self):
        table = table_of(4, (((0, 2), (1,)), ((0, 2), ()), ((1,),)))
        self.assertEqual(len(table), 8)
        for one, other in ((0, 1), (2, 0)):
            for lot in all_lots_by_length(8):
                self.check_lot(table, lot, one, other)

    def test_rest_is_served(self):
        answers = []
        for table in some_tables(66, 60, 6, 3):
            numbers = range(len(table))
            for one, other in pairs_of_ways(table):
                ones = [choice for choice in itertools.product((one, other), repeat=len(table))
                        if len({table[number][choice[number]] for number in numbers}) == len(table)]
                for lot in all_lots_by_length(len(table)):
                    rest = tuple(number for number in numbers if number not in lot)
                    expected = any(does_serve(table, part, tuple(choice[number] for number in part))
                                   for choice in ones for part in [lot]
                                   if does_serve(table, rest, tuple(choice[number] for number in rest)))
                    self.assertIs(is_rest_served(table, lot, one, other), expected)
                    self.assertIs(is_rest_served(table, rest, one, other), expected)
                    answers.append(expected)
                    # The rest is served, too, just if no two stretches of a ring have unlike forced ways.
                    if serving(table, lot, one, other):
                        self.assertEqual(unlike_stretches(table, lot, one, other) is None, expected)
        self.assertEqual(set(answers), {True, False})

    def test_unlike_stretches_of_a_long_ring(self):
        # All 24 sides stand in one ring.
        table = tuple(((at + 1) % 12, at) for at in range(12))
        for lot in all_lots_by_length(12)[::7]:
            self.check_lot(table, lot, 0, 1)
            self.check_lot(table, lot, 1, 0)

    def test_no_number_and_all_numbers(self):
        self.assertEqual([function(T, (), 0, 1) for function in FUNCTIONS], [[], None, [], (), True, None])
        full = tuple(range(6))
        self.assertEqual([function(T, full, 1, 0) for function in FUNCTIONS],
                         [[], None, [(0, 3, 4), (1, 2, 5)], (None,) * 6, True, None])

    def test_rings_of_two_sides(self):
        table = ((1, 1, 0), (0, 0, 2), (2, 2, 1))
        self.assertEqual([function(table, (0, 2), 0, 1) for function in FUNCTIONS],
                         [[((0, 0),), ((1, 0),)], ((0, 0),), [(2,)], None, False, None])
        self.assertEqual([function(table, (0, 1), 1, 0) for function in FUNCTIONS],
                         [[], None, [(0,), (1,)], (None, None), True, None])
        self.assertEqual(stretches_of(((0, 0),), (0,), 0, 1), [])
        self.assertEqual(whole_rings(((0, 0),), (0,), 0, 1), [(0,)])

    def test_the_lesser_direction(self):
        table = tuple(((at + 1) % 5, at) for at in range(5))
        self.assertEqual(stretches_of(table, (1, 2, 3, 4), 0, 1),
                         [((1, 1), (0, 1), (1, 2), (0, 2), (1, 3), (0, 3), (1, 4), (0, 4))[::-1]])
        self.assertEqual(stretches_of(table, (2,), 1, 0), [((0, 2), (1, 2))])
        self.assertEqual(forced_ways(table, (0, 2, 3), 1, 0), (1, 1, 1))

    def test_greatest_table(self):
        turn = tuple(((at + 1) % 720, at) for at in range(720))
        full = tuple(range(720))
        self.assertEqual(whole_rings(turn, full, 0, 1), [full])
        self.assertEqual(forced_ways(turn, full, 0, 1), (None,) * 720)
        self.assertEqual(forced_ways(turn, full[1:], 0, 1), (1,) * 719)
        self.assertEqual(len(stretches_of(turn, full[:719], 0, 1)[0]), 1438)
        self.assertEqual(len(stretches_of(turn, full[::2], 0, 1)), 360)

    def test_errors(self):
        tables, lots = (BAD_TABLES, InvalidTable), (BAD_NUMBER_LOTS, InvalidLot)
        ways = (ODD_INTEGERS + [2, 6], InvalidPair)
        for function in FUNCTIONS:
            check_errors(self, function, (T, (0, 2), 0, 1), [tables, lots, ways, ways])
            check_errors(self, function, (T, (0, 2), 1, 0), [tables, lots, ways, ways])
            for one in (0, 1):
                self.assertIs(outcome(function, T, (0, 2), one, one), InvalidPair)
            self.assertIs(outcome(function, ((0,),), (0,), 0, 0), InvalidPair)
            self.assertIs(outcome(function, T, (2, 0), 0, 0), InvalidLot)
        for function in (stretches_of, whole_rings):
            check_new_list(self, function, T, (0, 2), 0, 1)


if __name__ == "__main__":
    unittest.main()
