"""Promise [54]: choices that lead each number to where it is told."""

import itertools
import unittest

from rungonce.errors import InvalidLeading, InvalidTable
from rungonce.groups import table_of
from rungonce.leadings import choice_for, count_for, first_without
from samples import BAD_TABLES, ODD_VALUES, all_choices, check_errors, some_tables

T = table_of(3, (((0,),), ((1,),)))
BAD_LEADINGS = ODD_VALUES + [(), 0, (0,) * 6, (0, 1, 2, 3, 4), (0, 1, 2, 3, 4, 5, 6), (0, 1, 2, 3, 4, 6),
                             [0, 1, 2, 3, 4, 5], (0, True, 2, 3, 4, 5), (False, 1, 2, 3, 4, 5), (-1, 0, 1, 2, 3, 4),
                             (0, 1, 2, 3, 4, None), "012345", (0, 1, 2, 3, 4, (5,))]


class Leadings(unittest.TestCase):
    def test_examples(self):
        self.assertEqual(
            [choice_for(T, (2, 0, 3, 5, 1, 4)), first_without(T, (2, 1, 0, 5, 4, 3)), count_for(T, (2, 0, 3, 5, 1, 4)),
             count_for(((0, 0),), (0,))],
            [(0, 1, 1, 0, 0, 1), 1, 1, 2])

    def test_all_leadings(self):
        for table in some_tables(54, 100, 5, 4):
            by_ends = {}
            for choice in all_choices(table):
                ends = tuple(item[way] for item, way in zip(table, choice))
                by_ends.setdefault(ends, []).append(choice)
            for leading in itertools.permutations(range(len(table))):
                found = by_ends.get(leading, [])
                self.assertEqual(choice_for(table, leading), min(found, default=None))
                self.assertEqual(count_for(table, leading), len(found))
                without = [number for number in range(len(table)) if leading[number] not in table[number]]
                self.assertEqual(first_without(table, leading), min(without, default=None))

    def test_greatest_table(self):
        table = tuple((at,) * 6 for at in range(720))
        rounds = tuple(range(720))
        self.assertEqual(count_for(table, rounds), 6 ** 720)
        self.assertEqual(choice_for(table, rounds), (0,) * 720)
        self.assertIsNone(first_without(table, rounds))
        self.assertEqual(first_without(table, rounds[:718] + (719, 718)), 718)
        self.assertEqual(count_for(table, rounds[::-1]), 0)
        self.assertEqual(first_without(table, rounds[::-1]), 0)
        self.assertIsNone(choice_for(table, rounds[::-1]))

    def test_errors(self):
        for function in (choice_for, first_without, count_for):
            check_errors(self, function, (T, (2, 0, 3, 5, 1, 4)),
                         [(BAD_TABLES, InvalidTable), (BAD_LEADINGS, InvalidLeading)])


if __name__ == "__main__":
    unittest.main()
