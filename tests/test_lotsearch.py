"""Promise [63]: all lots of few classes, by how many blocks they have."""

import random
import unittest

from rungonce.errors import InvalidTable, TooMany
from rungonce.groups import table_of
from rungonce.lotsearch import least_lot, lots_by_blocks, one_block_lots
from rungonce.turnlots import turn_classes
from samples import (BAD_TABLES, NOT_TWO, all_lots_by_length, check_errors, check_limit, check_new_list, outcome,
                     paired_tables, some_tables, turned_by_hand, turning_table)

A = table_of(3, (((0,), (1,)), ((0,),)))
B = table_of(5, (((0,), (1,)), ((3,),)))


class LotSearch(unittest.TestCase):
    def check_by_hand(self, table):
        classes = turn_classes(table)
        counts = {lot: turned_by_hand(table, {number for index in lot for number in classes[index]})
                  for lot in all_lots_by_length(len(classes))}
        ones = [lot for lot in counts if counts[lot] == 1]
        self.assertEqual(one_block_lots(table), sorted(ones))
        self.assertEqual(lots_by_blocks(table), [list(counts.values()).count(blocks)
                                                 for blocks in range(1, max(counts.values()) + 1)])
        fewest = [lot for lot in ones if len(lot) == min(len(one) for one in ones)]
        self.assertEqual(least_lot(table), min(fewest, default=None))

    def test_examples(self):
        self.assertEqual(
            [one_block_lots(A), lots_by_blocks(A), least_lot(A), one_block_lots(B), lots_by_blocks(B), least_lot(B)],
            [[(0,), (1,), (2,)], [3, 4, 1], (0,), [], [0, 1, 1], None])

    def test_all_lots(self):
        for table in some_tables(63, 80, 8, 2, 2) + paired_tables(631, 60, 4, 3):
            self.check_by_hand(table)

    def test_twelve_classes_and_thirteen(self):
        dice = random.Random(632)
        for sizes in ([2] * 12, [1] * 12, [3, 1, 2, 5] * 3):
            self.check_by_hand(turning_table(dice, sizes))
        for sizes in ([2] * 13, [1] * 13, [708] + [1] * 12, [2] * 360, [1] * 720):
            for function in (one_block_lots, lots_by_blocks, least_lot):
                check_limit(self, 12, function, turning_table(dice, sizes))
        alike = tuple((at, at) for at in range(12))
        self.assertEqual([one_block_lots(alike), lots_by_blocks(alike), least_lot(alike)],
                         [[], [0] * 11 + [4096], None])

    def test_greatest_table(self):
        table = turning_table(random.Random(633), [60] * 12)
        counts = lots_by_blocks(table)
        self.assertEqual([sum(counts), counts[0], counts[-1] > 0], [4096, len(one_block_lots(table)), True])
        turn = tuple(((at + 1) % 720, at) for at in range(720))
        self.assertEqual([one_block_lots(turn), lots_by_blocks(turn), least_lot(turn)],
                         [[()], [1] + [0] * 718 + [1], ()])

    def test_one_number(self):
        one = ((0, 0),)
        self.assertEqual([one_block_lots(one), lots_by_blocks(one), least_lot(one)], [[(), (0,)], [2], ()])

    def test_errors(self):
        tables = (BAD_TABLES + NOT_TWO, InvalidTable)
        for function in (one_block_lots, lots_by_blocks, least_lot):
            check_errors(self, function, (A,), [tables])
            # The limit comes last: of three ways, and of no table.
            self.assertIs(outcome(function, tuple((at, at, at) for at in range(13))), InvalidTable)
            self.assertIs(outcome(function, tuple((at, 0) for at in range(13))), InvalidTable)
            self.assertIs(outcome(function, tuple((at, at) for at in range(13))), TooMany)
        check_new_list(self, one_block_lots, A)
        check_new_list(self, lots_by_blocks, A)


if __name__ == "__main__":
    unittest.main()
