"""Promise [51]: whether numbers of blocks are odd or even."""

import unittest

from rungonce.choices import blocks_of
from rungonce.errors import InvalidChoice, InvalidIndex, InvalidTable, InvalidTold, NotOne, NotTwo
from rungonce.groups import table_of
from rungonce.parities import choice_with_parity, only_parity, parity_of
from samples import (BAD_CHOICES, BAD_TABLES, BAD_TOLD, NOT_TWO, ODD_INTEGERS, all_told, check_errors, having, ones_of,
                     outcome, some_tables, two_way_choices)

T = table_of(3, (((0,),), ((1,),)))
U = ((0, 1), (1, 0))


class Parities(unittest.TestCase):
    def test_examples(self):
        self.assertEqual(
            [parity_of(T, (0,) * 6), only_parity(T, ()), only_parity(U, ()), only_parity(U, ((1, 1),)),
             choice_with_parity(U, (), 1)],
            [1, 1, None, 1, (1, 1)])

    def test_parity_of_each_choice(self):
        for table in some_tables(511, 60, 8, 2, 2):
            ones = ones_of(table)
            for choice in two_way_choices(len(table)):
                expected = len(blocks_of(table, choice)) % 2 if choice in ones else NotOne
                self.assertEqual(outcome(parity_of, table, choice), expected)

    def test_parities_with_told_ways(self):
        for table in some_tables(512, 60, 5, 2, 2):
            ones = ones_of(table)
            for told in all_told(len(table), 2):
                found = having(ones, told)
                parities = sorted({len(blocks_of(table, choice)) % 2 for choice in found})
                self.assertEqual(only_parity(table, told), parities[0] if len(parities) == 1 else None)
                for parity in (0, 1):
                    least = min([choice for choice in found if len(blocks_of(table, choice)) % 2 == parity],
                                default=None)
                    self.assertEqual(choice_with_parity(table, told, parity), least)

    def test_greater_tables(self):
        for table in some_tables(513, 60, 12, 2, 2):
            ones = ones_of(table)
            for parity in (0, 1):
                least = min([choice for choice in ones if parity_of(table, choice) == parity], default=None)
                self.assertEqual(choice_with_parity(table, (), parity), least)

    def test_greatest_tables(self):
        alike = tuple((at, at) for at in range(720))
        self.assertEqual([only_parity(alike, ()), choice_with_parity(alike, (), 1)], [0, None])
        self.assertEqual(choice_with_parity(alike, ((719, 1),), 0), (0,) * 719 + (1,))
        turn = tuple(((at + 1) % 720, at) for at in range(720))
        self.assertEqual([only_parity(turn, ()), choice_with_parity(turn, (), 0)], [None, (1,) * 720])
        self.assertEqual(choice_with_parity(turn, ((3, 0),), 0), None)
        pairs = tuple((at, at ^ 1) for at in range(720))
        self.assertEqual(choice_with_parity(pairs, (), 1), (0,) * 718 + (1, 1))
        self.assertEqual(choice_with_parity(pairs, ((719, 0),), 1), (0,) * 716 + (1, 1, 0, 0))

    def test_told_ways_of_one_tie_apart(self):
        self.assertIsNone(only_parity(T, ((0, 0), (3, 1))))
        self.assertIsNone(choice_with_parity(T, ((0, 0), (3, 1)), 1))

    def test_errors(self):
        tables, told, choices = (BAD_TABLES, InvalidTable), (BAD_TOLD, InvalidTold), (BAD_CHOICES, InvalidChoice)
        not_two, parity = (NOT_TWO, NotTwo), (ODD_INTEGERS + [2], InvalidIndex)
        for faults in (tables, not_two):
            check_errors(self, parity_of, (T, (0,) * 6), [faults, choices])
            check_errors(self, only_parity, (T, ((0, 1),)), [faults, told])
            check_errors(self, choice_with_parity, (T, ((0, 1),), 0), [faults, told, parity])
        self.assertIs(outcome(choice_with_parity, T, ((0, 0), (3, 1)), 2), InvalidIndex)


if __name__ == "__main__":
    unittest.main()
