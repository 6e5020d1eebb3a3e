"""Promise [55]: sheets, turned and turned back, and the sheets of tables."""

import random
import unittest

from rungonce.choices import blocks_of
from rungonce.classes import classes_of
from rungonce.errors import InvalidLot, InvalidSheet, InvalidTable, InvalidWays
from rungonce.groups import table_of
from rungonce.sheets import is_sheet, sheet_of, turned_back, turned_sheet
from samples import (BAD_LOTS, BAD_SHEETS, BAD_TABLES, ODD_INTEGERS, all_lots_by_length, check_errors, check_limit,
                     count_classes, outcome, size_in, some_sheet, some_sheets, some_tables, turn, written)

T = table_of(3, (((0,),), ((1,),)))
S = (((0, 0), (1, 0), (2, 0)), ((0, 1), (1, 1), (2, 1)))
GREATEST = (tuple((label, index) for label in range(10) for index in range(6)),)


def table_with_classes(sizes, count):
    """Way 0 keeps all numbers, way 1 leads them round classes of these sizes."""
    steps, at = {}, 0
    for size in sizes:
        steps.update({at + index: at + (index + 1) % size for index in range(size)})
        at += size
    return tuple((number, steps.get(number, number)) for number in range(count))


class Sheets(unittest.TestCase):
    def test_examples(self):
        self.assertEqual(
            [turned_sheet(S, (0,)), turned_sheet(S, (0, 1)), len(turned_sheet(S, (0, 1, 2))),
             turned_back(turned_sheet(S, (0, 1)), (0, 1)) == S],
            [(((0, 0), (1, 1), (2, 1), (0, 1), (1, 0), (2, 0)),),
             (((0, 0), (1, 1), (2, 0)), ((0, 1), (1, 0), (2, 1))), 1, True])
        self.assertEqual(sheet_of(T, 0, 1), (((0, 0), (1, 2)), ((0, 1), (1, 1)), ((0, 2), (1, 0))))

    def test_what_is_a_sheet(self):
        for sheet in some_sheets(55, 200, 10) + [(), S, GREATEST]:
            self.assertIs(is_sheet(sheet), True)
        for value in BAD_SHEETS:
            self.assertIs(is_sheet(value), False, value)

    def test_sheets_that_are_nearly_ones(self):
        for sheet in some_sheets(551, 60, 4, blocks=1):
            block = sheet[0]
            for at in range(1, len(block)):
                self.assertFalse(is_sheet((block[at:] + block[:at],)))
                first, second = block[:at], block[at:]
                second = second[second.index(min(second)):] + second[:second.index(min(second))]
                self.assertTrue(is_sheet((first, second)))
                self.assertFalse(is_sheet((second, first)))
                self.assertFalse(is_sheet((first, second[1:] + second[:1])) and len(second) > 1)
                self.assertFalse(is_sheet((first, second, second)))
                self.assertFalse(is_sheet((first, second, ())))
                self.assertFalse(is_sheet((first + (first[-1],), second)))
                self.assertFalse(is_sheet((list(first), second)))
            stands = [(label, index) for label, index in block if label > 0]
            if stands:
                self.assertFalse(is_sheet((tuple(stands),)))

    def test_numbers_of_classes_and_of_stands(self):
        dice = random.Random(552)
        for count in range(0, 13):
            self.assertEqual(is_sheet(some_sheet(dice, [2] * count)), count <= 10)
            self.assertEqual(is_sheet(some_sheet(dice, [6] * count, 1) if count else ()), count <= 10)
        for size in range(1, 9):
            self.assertEqual(is_sheet(some_sheet(dice, [size])), 2 <= size <= 6)
            self.assertEqual(is_sheet(some_sheet(dice, [3, size, 2])), 2 <= size <= 6)

    def test_turning_and_turning_back(self):
        for sheet in some_sheets(553, 60, 4):
            for lot in all_lots_by_length(count_classes(sheet)):
                turned = turned_sheet(sheet, lot)
                self.assertEqual(turned, turn(sheet, lot))
                self.assertTrue(is_sheet(turned))
                self.assertEqual(turned_back(turned, lot), sheet)
                self.assertEqual(turned_sheet(turned_back(sheet, lot), lot), sheet)
                # Classes less one, taken together, tell whether the number of blocks stays odd or even.
                less = sum(size_in(sheet, label) - 1 for label in lot)
                self.assertEqual((len(turned) - len(sheet) - less) % 2, 0)

    def test_edges_of_turning(self):
        self.assertEqual([turned_sheet((), ()), turned_back((), ())], [(), ()])
        pair = (((0, 0), (0, 1)),)
        self.assertEqual([turned_sheet(pair, (0,)), turned_back(pair, (0,))], [(((0, 0),), ((0, 1),))] * 2)
        six = (tuple((0, index) for index in range(6)),)
        self.assertEqual(turned_sheet(six, (0,)), tuple(((0, index),) for index in range(6)))
        self.assertEqual(turned_back(six, (0,)), (((0, 0), (0, 2), (0, 4)), ((0, 1), (0, 3), (0, 5))))
        self.assertEqual(turned_sheet(GREATEST, tuple(range(10))), turn(GREATEST, tuple(range(10))))
        for _ in range(6):
            six = turned_sheet(six, (0,))
        self.assertEqual(six, (tuple((0, index) for index in range(6)),))

    def test_sheets_of_tables(self):
        for table in some_tables(554, 150, 9, 3):
            for one in range(len(table[0])):
                for two in range(len(table[0])):
                    self.check_sheet_of(table, one, two)

    def check_sheet_of(self, table, one, two):
        turning = [numbers for numbers in classes_of(table, one, two) if len(numbers) > 1]
        if any(len(numbers) > 6 for numbers in turning):
            check_limit(self, 6, sheet_of, table, one, two)
            return
        sheet = sheet_of(table, one, two)
        self.assertTrue(is_sheet(sheet))
        stands = {number: (label, index) for label, numbers in enumerate(turning)
                  for index, number in enumerate(numbers)}
        followers = {}
        for number, stand in stands.items():
            end = table[number][one]
            while end not in stands:
                end = table[end][one]
            followers[stand] = stands[end]
        self.assertEqual(sheet, written(followers))
        # What turning does to the blocks of the choice, but for those of other numbers alone.
        alone = len(blocks_of(table, (one,) * len(table))) - len(sheet)
        for lot in all_lots_by_length(len(turning)):
            turned = [number for label in lot for number in turning[label]]
            choice = tuple(two if number in turned else one for number in range(len(table)))
            self.assertEqual(len(blocks_of(table, choice)) - alone, len(turned_sheet(sheet, lot)))

    def test_two_ways_that_lead_alike(self):
        self.assertEqual(sheet_of(((0, 0), (1, 1)), 0, 1), ())
        self.assertEqual(sheet_of(T, 1, 1), ())
        self.assertEqual(sheet_of(((0,),), 0, 0), ())

    def test_limits_of_tables(self):
        ten = sheet_of(table_with_classes([6] * 10, 720), 0, 1)
        self.assertEqual(ten, tuple(((label, index),) for label in range(10) for index in range(6)))
        check_limit(self, 10, sheet_of, table_with_classes([2] * 11, 22), 0, 1)
        check_limit(self, 10, sheet_of, table_with_classes([7] + [2] * 10, 720), 0, 1)
        check_limit(self, 6, sheet_of, table_with_classes([2] * 9 + [7], 30), 0, 1)
        check_limit(self, 6, sheet_of, table_with_classes([720], 720), 0, 1)
        self.assertEqual(sheet_of(table_with_classes([7] * 12, 100), 1, 1), ())
        great = table_with_classes([7] * 11, 100)
        for bad in ODD_INTEGERS + [2]:
            self.assertIs(outcome(sheet_of, great, bad, 0), InvalidWays)
            self.assertIs(outcome(sheet_of, great, 0, bad), InvalidWays)

    def test_errors(self):
        for function in (turned_sheet, turned_back):
            check_errors(self, function, (S, (0, 2)), [(BAD_SHEETS, InvalidSheet), (BAD_LOTS, InvalidLot)])
        ways = (ODD_INTEGERS + [2], InvalidWays)
        check_errors(self, sheet_of, (T, 0, 1), [(BAD_TABLES, InvalidTable), ways, ways])


if __name__ == "__main__":
    unittest.main()
