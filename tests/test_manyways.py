"""Promise [52]: one to one choices of any ways, with told ones, and lots that have too few."""

import random
import unittest

from rungonce.choices import is_choice
from rungonce.errors import InvalidTable, InvalidTold, TooMany
from rungonce.groups import table_of
from rungonce.manyways import choice_with, count_choices, is_lot_with_few, lot_with_few
from samples import (BAD_TABLES, BAD_TOLD, ODD_VALUES, all_lots_by_length, all_told, check_errors, check_limit, having,
                     is_one, ones_of, outcome, some_table, some_tables)

T = table_of(3, (((0,),), ((1,),)))
V = ((0, 1, 2), (1, 2, 0), (2, 0, 1))


def has_few(table, told, lot):
    ways = dict(told)
    ends = set()
    for number in lot:
        ends |= {table[number][ways[number]]} if number in ways else set(table[number])
    return len(ends) < len(lot)


def turned(count, steps):
    return tuple(tuple((at + step) % count for step in steps) for at in range(count))


class ManyWays(unittest.TestCase):
    def check_told(self, table, told, found):
        choice, lot = choice_with(table, told), lot_with_few(table, told)
        self.assertEqual(count_choices(table, told), len(found))
        if found:
            self.assertIn(choice, found)
            self.assertIsNone(lot)
        else:
            self.assertIsNone(choice)
            self.assertTrue(has_few(table, told, lot), (table, told, lot))
            self.assertEqual(lot, tuple(sorted(set(lot))))
            self.assertTrue(is_lot_with_few(table, told, lot))

    def test_examples(self):
        self.assertEqual(
            [choice_with(T, ((0, 1), (5, 0))), is_lot_with_few(T, ((0, 0), (3, 1)), (0, 3)), lot_with_few(T, ()),
             count_choices(T, ()), count_choices(V, ())],
            [(1, 0, 0, 1, 1, 0), True, None, 4, 6])

    def test_all_told_ways(self):
        for table in some_tables(52, 40, 4, 4):
            ones = ones_of(table)
            for told in all_told(len(table), len(table[0])):
                self.check_told(table, told, having(ones, told))

    def test_some_told_ways_of_greater_tables(self):
        dice = random.Random(525)
        for table in some_tables(521, 40, 8, 3):
            ones = ones_of(table)
            for _ in range(10):
                told = tuple((number, dice.randrange(len(table[0]))) for number in range(len(table))
                             if dice.random() < 0.4)
                self.check_told(table, told, having(ones, told))

    def test_all_lots(self):
        for table in some_tables(522, 15, 4, 3):
            for told in all_told(len(table), len(table[0])):
                for lot in all_lots_by_length(len(table)):
                    self.assertEqual(is_lot_with_few(table, told, lot), has_few(table, told, lot))

    def test_ways_that_lead_alike(self):
        alike = ((0, 0, 0), (1, 1, 1))
        self.assertEqual(count_choices(alike, ()), 9)
        self.assertEqual(count_choices(alike, ((1, 2),)), 3)
        self.assertEqual(choice_with(alike, ((0, 2), (1, 1))), (2, 1))

    def test_great_tables(self):
        dice = random.Random(526)
        for _ in range(30):
            count = dice.randint(50, 60)
            table = some_table(dice, count, dice.randint(1, 6))
            told = tuple((number, dice.randrange(len(table[0]))) for number in range(count) if dice.random() < 0.15)
            choice, lot = choice_with(table, told), lot_with_few(table, told)
            self.assertEqual(choice is None, lot is not None)
            if choice is None:
                self.assertTrue(has_few(table, told, lot))
                self.assertTrue(is_lot_with_few(table, told, lot))
            else:
                self.assertTrue(is_choice(table, choice) and is_one(table, choice))
                self.assertEqual(having([choice], told), [choice])

    def test_one_way_of_a_long_road(self):
        # Each number but the last one has to give way to the one ahead of it.
        table = turned(60, (0, 1))
        self.assertEqual(choice_with(table, ((59, 1),)), (1,) * 60)
        self.assertEqual(lot_with_few(table, ((0, 1), (59, 0))), tuple(range(60)))

    def test_what_is_no_lot_with_few(self):
        told = ((0, 0), (3, 1))
        for value in ODD_VALUES + [(), 0, (0,), (3, 0), [0, 3], (0, 0), (0, 3, 3), (0, 6), (-1, 0), (False, 3), "03"]:
            self.assertIs(is_lot_with_few(T, told, value), False)
        self.assertIs(is_lot_with_few(T, told, (0, 3)), True)
        self.assertIs(is_lot_with_few(T, told, (0, 3, 4)), False)
        self.assertIs(is_lot_with_few(T, (), (0, 3)), False)

    def test_limits(self):
        for count in (60, 61, 720):
            table = turned(count, (0, 1, 2))
            for function, arguments in ((choice_with, ()), (lot_with_few, ()), (is_lot_with_few, ((0, 1),)),
                                        (is_lot_with_few, (None,))):
                if count == 60:
                    self.assertNotIsInstance(outcome(function, table, (), *arguments), type)
                else:
                    check_limit(self, 60, function, table, (), *arguments)
        # All numbers one on, or all one back, or else some neighbours exchanged: 1, 1 and 47.
        self.assertEqual(count_choices(turned(8, (0, 1, 7)), ()), 49)
        for count in (9, 60, 61, 720):
            check_limit(self, 8, count_choices, turned(count, (0,)), ())
            check_limit(self, 8, count_choices, turned(count, (0, 1)), ((0, 1),))
        self.assertEqual(count_choices(((0,) * 6,), ()), 6)

    def test_errors(self):
        tables, told = (BAD_TABLES, InvalidTable), (BAD_TOLD, InvalidTold)
        for function in (choice_with, lot_with_few, count_choices):
            check_errors(self, function, (T, ((0, 1),)), [tables, told])
        check_errors(self, is_lot_with_few, (T, ((0, 1),), (0, 3)), [tables, told, None])

    def test_limits_come_last(self):
        great = turned(61, (0, 1))
        for told in ODD_VALUES + [((61, 0),), ((0, 2),), ((1, 0), (0, 0))]:
            for function, arguments in ((choice_with, ()), (lot_with_few, ()), (is_lot_with_few, ((0,),)),
                                        (count_choices, ())):
                self.assertIs(outcome(function, great, told, *arguments), InvalidTold)
        self.assertIs(outcome(choice_with, great, ((60, 1),)), TooMany)


if __name__ == "__main__":
    unittest.main()
