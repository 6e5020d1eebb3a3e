"""Promise [60]: tables of two ways, and lots of their classes."""

import random
import unittest

from rungonce.choices import blocks_of
from rungonce.errors import InvalidLot, InvalidTable
from rungonce.groups import table_of
from rungonce.turnlots import is_paired, is_whole_table, lot_blocks, lot_choice, turn_classes
from samples import (BAD_LOTS, BAD_TABLES, NOT_TWO, all_lots_by_length, check_errors, check_new_list, is_one,
                     paired_tables, some_tables, turned_by_hand, turning_table, written)

A = table_of(3, (((0,), (1,)), ((0,),)))
B = table_of(5, (((0,), (1,)), ((3,),)))


def classes_by_hand(table):
    return list(written({number: other for number, item in enumerate(table) for other, more in enumerate(table)
                         if item[0] == more[1]}))


class TurnLots(unittest.TestCase):
    def test_examples(self):
        self.assertEqual(
            [A, turn_classes(A), lot_choice(A, (1,)), [lot_blocks(A, lot) for lot in ((), (0,), (0, 1), (0, 1, 2))]],
            [((3, 2), (5, 4), (1, 0), (4, 5), (0, 1), (2, 3)), [(0, 5), (1, 3), (2, 4)], (0, 1, 0, 1, 0, 0),
             [2, 1, 2, 3]])
        self.assertEqual(
            [is_whole_table(A), is_paired(A), is_paired(B), len(turn_classes(B)), lot_blocks(B, ()),
             lot_blocks(B, (0,))],
            [True, True, False, 1, 2, 3])

    def test_classes_choices_and_blocks(self):
        for table in some_tables(60, 80, 7, 2, 2) + paired_tables(601, 40, 4, 2):
            classes = turn_classes(table)
            self.assertEqual(classes, classes_by_hand(table))
            self.assertIs(is_paired(table), all(len(numbers) < 3 for numbers in classes))
            for lot in all_lots_by_length(len(classes)):
                turned = [number for index in lot for number in classes[index]]
                choice = lot_choice(table, lot)
                self.assertEqual(choice, tuple(int(number in turned) for number in range(len(table))))
                self.assertTrue(is_one(table, choice))
                self.assertEqual(lot_blocks(table, lot), turned_by_hand(table, turned))
                self.assertEqual(lot_blocks(table, lot), len(blocks_of(table, choice)))

    def test_whole_tables(self):
        seen = []
        for table in some_tables(602, 100, 8, 2, 2) + paired_tables(603, 100, 4, 1):
            reached = [0]
            for number in reached:
                reached += [end for end in sorted(set(table[number])) if end not in reached]
            whole = len(reached) == len(table)
            self.assertIs(is_whole_table(table), whole)
            seen.append(whole)
        self.assertEqual(set(seen), {True, False})

    def test_one_number_and_greatest_tables(self):
        one = ((0, 0),)
        self.assertEqual([turn_classes(one), lot_choice(one, ()), lot_choice(one, (0,)), lot_blocks(one, (0,)),
                          is_whole_table(one), is_paired(one)], [[(0,)], (0,), (1,), 1, True, True])
        alike = tuple((at, at) for at in range(720))
        self.assertEqual([len(turn_classes(alike)), lot_blocks(alike, (3, 719)), is_whole_table(alike),
                          is_paired(alike)], [720, 720, False, True])
        turn = tuple(((at + 1) % 720, at) for at in range(720))
        self.assertEqual([turn_classes(turn), lot_blocks(turn, ()), lot_blocks(turn, (0,)), is_whole_table(turn),
                          is_paired(turn)], [[tuple(range(720))], 1, 720, True, False])
        self.assertEqual([is_paired(((1, 1), (2, 0), (0, 2))), is_paired(((1, 2), (2, 0), (0, 1)))], [True, False])

    def test_great_tables(self):
        table = turning_table(random.Random(604), [2] * 360)
        full = tuple(range(360))
        self.assertEqual(lot_blocks(table, full), turned_by_hand(table, range(720)))
        half = tuple(range(0, 360, 3))
        turned = {number for index in half for number in turn_classes(table)[index]}
        self.assertEqual(lot_blocks(table, half), turned_by_hand(table, turned))

    def test_errors(self):
        tables, lots = (BAD_TABLES + NOT_TWO, InvalidTable), (BAD_LOTS, InvalidLot)
        for function in (turn_classes, is_whole_table, is_paired):
            check_errors(self, function, (A,), [tables])
        for function in (lot_choice, lot_blocks):
            check_errors(self, function, (A, (0, 2)), [tables, lots])
        check_new_list(self, turn_classes, A)


if __name__ == "__main__":
    unittest.main()
