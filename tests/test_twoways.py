"""Promise [50]: choices of two ways, by ties."""

import itertools
import unittest

from rungonce.choices import blocks_of
from rungonce.errors import InvalidChoice, InvalidIndex, InvalidTable, InvalidTold, NotOne, NotTwo
from rungonce.groups import table_of
from rungonce.twoways import choice_at, count_two, index_of, led_on, ties_of, told_apart
from samples import (BAD_TABLES, BAD_TOLD, NOT_TWO, ODD_INTEGERS, ODD_VALUES, all_told, check_errors, check_new_list,
                     having, ones_of, outcome, some_tables, two_way_choices)

T = table_of(3, (((0,),), ((1,),)))


class TwoWays(unittest.TestCase):
    def test_examples(self):
        self.assertEqual(
            [ties_of(T), count_two(T, ()), choice_at(T, 1), index_of(T, (1, 0, 0, 1, 1, 0)), count_two(T, ((0, 1),))],
            [[(0, 3, 4), (1, 2, 5)], 4, (0, 1, 1, 0, 0, 1), 2, 2])
        self.assertEqual(
            [led_on(T, ((0, 1),)), led_on(T, ((0, 0), (3, 1))), told_apart(T, ((0, 0), (3, 1)))],
            [(1, 0, 0, 1, 1, 0), None, (0, 3)])

    def test_ties(self):
        for table in some_tables(50, 100, 12, 2, 2):
            left, ties = list(range(len(table))), []
            while left:
                tie = [left[0]]
                for number in tie:
                    tie += [other for other in left if other not in tie and
                            (table[number][0] == table[other][1] or table[number][1] == table[other][0])]
                left = [number for number in left if number not in tie]
                ties.append(tuple(sorted(tie)))
            self.assertEqual(ties_of(table), sorted(ties))
        check_new_list(self, ties_of, T)

    def test_choices_have_indices(self):
        for table in some_tables(5, 40, 8, 2, 2):
            ones = ones_of(table)
            for index, choice in enumerate(ones):
                self.assertEqual(choice_at(table, index), choice)
                self.assertEqual(index_of(table, choice), index)
            for index in (-1, len(ones)):
                self.assertIs(outcome(choice_at, table, index), InvalidIndex)
            for choice in two_way_choices(len(table)):
                if choice not in ones:
                    self.assertIs(outcome(index_of, table, choice), NotOne)

    def test_told_ways(self):
        for table in some_tables(51, 30, 5, 2, 2):
            ones, ties = ones_of(table), ties_of(table)
            for told in all_told(len(table), 2):
                found = having(ones, told)
                self.assertEqual(count_two(table, told), len(found))
                self.assertEqual(led_on(table, told), min(found, default=None))
                apart = [(g, h) for (g, way), (h, other) in itertools.combinations(told, 2) if way != other
                         and any(g in tie and h in tie for tie in ties)]
                self.assertEqual(told_apart(table, told), min(apart, default=None))
                self.assertEqual(bool(apart), not found)

    def test_first_pair_that_is_told_apart(self):
        table = tuple(((at + 2) % 6, at) for at in range(6))
        self.assertEqual(ties_of(table), [(0, 2, 4), (1, 3, 5)])
        self.assertEqual(told_apart(table, ((1, 0), (2, 0), (3, 1), (4, 1))), (1, 3))
        self.assertEqual(told_apart(table, ((0, 1), (1, 0), (2, 1), (3, 1), (4, 0))), (0, 4))
        self.assertIsNone(told_apart(table, ((0, 1), (1, 0), (2, 1), (3, 0), (4, 1), (5, 0))))

    def test_no_told_ways(self):
        self.assertEqual(led_on(T, ()), (0,) * 6)
        self.assertIsNone(told_apart(T, ()))
        self.assertEqual([ties_of(((0, 0),)), count_two(((0, 0),), ()), choice_at(((0, 0),), 1)], [[(0,)], 2, (1,)])

    def test_first_index_and_last_index(self):
        alike = tuple((at, at) for at in range(300))
        self.assertEqual(count_two(alike, ()), 2 ** 300)
        self.assertEqual(choice_at(alike, 0), (0,) * 300)
        self.assertEqual(choice_at(alike, 2 ** 300 - 1), (1,) * 300)
        self.assertEqual(index_of(alike, (1,) + (0,) * 299), 2 ** 299)
        self.assertIs(outcome(choice_at, alike, 2 ** 300), InvalidIndex)
        turn = tuple(((at + 1) % 720, at) for at in range(720))
        self.assertEqual(ties_of(turn), [tuple(range(720))])
        self.assertEqual(choice_at(turn, 1), (1,) * 720)
        self.assertEqual(led_on(turn, ((719, 1),)), (1,) * 720)

    def test_blocks_by_ties_but_for_an_even_number(self):
        for table in some_tables(52, 40, 7, 2, 2):
            first = len(blocks_of(table, (0,) * len(table)))
            for choice in ones_of(table):
                more = sum(len(tie) - 1 for tie in ties_of(table) if choice[tie[0]] == 1)
                self.assertEqual((first + more - len(blocks_of(table, choice))) % 2, 0)

    def test_errors(self):
        tables, told = (BAD_TABLES, InvalidTable), (BAD_TOLD, InvalidTold)
        indices = (ODD_INTEGERS + [4], InvalidIndex)
        choices = (ODD_VALUES + [(), 0, (0,) * 5, [0] * 6, (0, 0, 0, 0, 0, 2), (True,) * 6], InvalidChoice)
        check_errors(self, ties_of, (T,), [tables])
        for function in (count_two, led_on, told_apart):
            check_errors(self, function, (T, ((0, 1),)), [tables, told])
            check_errors(self, function, (T, ((0, 1),)), [(NOT_TWO, NotTwo), told])
        check_errors(self, choice_at, (T, 3), [tables, indices])
        check_errors(self, choice_at, (T, 3), [(NOT_TWO, NotTwo), indices])
        check_errors(self, index_of, (T, (0,) * 6), [tables, choices])
        check_errors(self, index_of, (T, (0,) * 6), [(NOT_TWO, NotTwo), choices])
        self.assertIs(outcome(ties_of, ((0, 0, 0),)), NotTwo)


if __name__ == "__main__":
    unittest.main()
