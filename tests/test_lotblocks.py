"""Promise [68]: how many blocks the choices of two ways have that serve a lot."""

import itertools
import random
import unittest

from rungonce.errors import InvalidLot, InvalidPair, InvalidTable, TooMany
from rungonce.groups import table_of
from rungonce.lotblocks import in_one_block, lot_block_counts
from rungonce.lots import blocks_of_lot, does_serve
from rungonce.stretches import whole_rings
from samples import (BAD_NUMBER_LOTS, BAD_TABLES, ODD_INTEGERS, all_lots_by_length, check_errors, check_limit, outcome,
                     some_tables, turned_by_hand, turning_table, written)

T = table_of(3, (((0,),), ((1,),)))


def counts_by_hand(table, lot, one, other):
    """The numbers of blocks of all choices of two ways that serve a lot."""
    counts = set()
    for choice in itertools.product((one, other), repeat=len(lot)):
        steps = {number: table[number][way] for number, way in zip(lot, choice)}
        if set(steps.values()) == set(lot):
            counts.add(len(written(steps)))
    return tuple(sorted(counts))


class LotBlocks(unittest.TestCase):
    def check_lot(self, table, lot, one, other, counts):
        found = lot_block_counts(table, lot, one, other)
        self.assertEqual(found, counts)
        self.assertIs(type(found), tuple)
        choice = in_one_block(table, lot, one, other)
        self.assertEqual(choice is not None, 1 in counts)
        if choice is not None:
            self.assertTrue(set(choice) <= {one, other} and does_serve(table, lot, choice))
            self.assertEqual(len(blocks_of_lot(table, lot, choice)), 1)

    def test_examples(self):
        self.assertEqual(
            [lot_block_counts(T, (0, 1, 2, 3, 4, 5), 0, 1), in_one_block(T, (0, 2), 0, 1),
             in_one_block(T, (0, 2, 4, 5), 0, 1), lot_block_counts(T, (0, 1, 2), 0, 1)],
            [(1, 3), (0, 0), None, ()])

    def test_all_lots_of_small_tables(self):
        sizes = set()
        for table in some_tables(68, 50, 6, 4):
            for one, other in itertools.permutations(range(len(table[0])), 2):
                for lot in all_lots_by_length(len(table)):
                    counts = counts_by_hand(table, lot, one, other)
                    self.check_lot(table, lot, one, other, counts)
                    sizes.add(len(counts))
        self.assertEqual(sizes, {0, 1, 2, 3, 4})

    def test_greater_lots(self):
        dice = random.Random(681)
        for _ in range(40):
            table = turning_table(dice, [dice.randint(1, 4) for _ in range(dice.randint(3, 6))])
            if len(table) <= 12:
                for _ in range(4):
                    lot = tuple(number for number in range(len(table)) if dice.random() < 0.8)
                    self.check_lot(table, lot, 0, 1, counts_by_hand(table, lot, 0, 1))
                full = tuple(range(len(table)))
                self.check_lot(table, full, 1, 0, counts_by_hand(table, full, 1, 0))

    def test_no_number(self):
        self.check_lot(T, (), 0, 1, (0,))
        self.assertIsNone(in_one_block(T, (), 1, 0))

    def test_odd_whole_rings_leave_one_parity(self):
        dice = random.Random(682)
        for _ in range(30):
            sizes = [dice.choice((1, 3, 5)) for _ in range(dice.randint(1, 6))]
            table = turning_table(dice, sizes)
            counts = lot_block_counts(table, tuple(range(len(table))), 0, 1)
            self.assertEqual(len({count % 2 for count in counts}), 1)
        self.assertEqual(lot_block_counts(((0, 1), (1, 0)), (0, 1), 0, 1), (1, 2))

    def test_ten_whole_rings(self):
        dice = random.Random(683)
        for sizes in ([2] * 10, [3, 1] * 5, [72] * 10, [1] * 10):
            table = turning_table(dice, sizes)
            full = tuple(range(len(table)))
            rings = whole_rings(table, full, 0, 1)
            self.assertEqual(len(rings), 10)
            counts = set()
            for mask in itertools.product((0, 1), repeat=10):
                if len(table) < 100 or sum(mask) in (0, 10):
                    turned = {number for way, ring in zip(mask, rings) if way for number in ring}
                    counts.add(turned_by_hand(table, turned))
            found = lot_block_counts(table, full, 0, 1)
            self.assertTrue(counts <= set(found))
            if len(table) < 100:
                self.check_lot(table, full, 0, 1, tuple(sorted(counts)))

    def test_eleven_whole_rings(self):
        for count in (11, 12, 720):
            table = tuple((at, at) for at in range(count))
            full = tuple(range(count))
            for function in (lot_block_counts, in_one_block):
                check_limit(self, 10, function, table, full, 0, 1)
                check_limit(self, 10, function, table, full[:11], 1, 0)
            self.check_lot(table, full[:10], 0, 1, (10,))

    def test_what_is_whole_counts(self):
        # Twelve rings, not all of them whole.
        table = tuple((at ^ 1, at) for at in range(24))
        self.check_lot(table, tuple(range(20)), 0, 1, tuple(range(10, 21)))
        self.check_lot(table, tuple(range(18)) + (18, 20, 22), 1, 0, tuple(range(12, 22)))
        for function in (lot_block_counts, in_one_block):
            check_limit(self, 10, function, table, tuple(range(22)), 0, 1)
        # Of eleven whole rings it is told, even where a stretch beside them is odd.
        odd = tuple((at ^ 1, at) for at in range(22)) + ((23, 23), (24, 24), (22, 22))
        for function in (lot_block_counts, in_one_block):
            check_limit(self, 10, function, odd, tuple(range(23)), 0, 1)
        self.check_lot(odd, tuple(range(20)) + (22,), 0, 1, ())

    def test_greatest_table(self):
        turn = tuple(((at + 1) % 720, at) for at in range(720))
        full = tuple(range(720))
        self.check_lot(turn, full, 0, 1, (1, 720))
        self.assertEqual(in_one_block(turn, full, 0, 1), (0,) * 720)
        self.check_lot(turn, full[1:], 0, 1, (719,))

    def test_limit_comes_last(self):
        table = tuple((at, at) for at in range(11))
        full = tuple(range(11))
        for function in (lot_block_counts, in_one_block):
            self.assertIs(outcome(function, table, full, 0, 1), TooMany)
            self.assertIs(outcome(function, table, full, 0, 0), InvalidPair)
            self.assertIs(outcome(function, table, full, 0, 2), InvalidPair)
            self.assertIs(outcome(function, table, full, True, 1), InvalidPair)
            self.assertIs(outcome(function, table, full + (11,), 0, 0), InvalidLot)

    def test_errors(self):
        tables, lots = (BAD_TABLES, InvalidTable), (BAD_NUMBER_LOTS, InvalidLot)
        ways = (ODD_INTEGERS + [2, 6], InvalidPair)
        for function in (lot_block_counts, in_one_block):
            check_errors(self, function, (T, (0, 2), 0, 1), [tables, lots, ways, ways])
            self.assertIs(outcome(function, T, (0, 2), 1, 1), InvalidPair)


if __name__ == "__main__":
    unittest.main()
