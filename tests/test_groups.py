"""Promise [40]: ways, groups and tables of ways."""

import itertools
import random
import unittest

from rungonce.choices import is_table
from rungonce.errors import InvalidBells, InvalidRow, InvalidWays
from rungonce.groups import are_ways, group_of, number_of, table_of, ways_to
from samples import BAD_WAYS, ODD_BELLS, ODD_VALUES, all_rows, check_errors, group_by_hand, ring, some_ways

W = (((0,),), ((1,),))
ALL = (((0,),), ((1,),), ((2,),), ((3,),), ((4,),))
BAD_ROWS = ODD_VALUES + [(0,), (0, 1), (0, 1, 2), (0, 1, 2, 3, 4), [0, 1, 2, 3], (0, 1, 2, 2), (0, True, 2, 3), 0]


def many_ways():
    dice = random.Random(40)
    return [(bells, some_ways(dice, bells)) for bells in (2, 3, 3, 4, 4, 5) for _ in range(8)]


class Groups(unittest.TestCase):
    def test_examples(self):
        self.assertEqual(
            [group_of(3, W) == ((0, 1, 2), (0, 2, 1), (1, 0, 2), (1, 2, 0), (2, 0, 1), (2, 1, 0)),
             number_of(3, W, (1, 2, 0)), number_of(3, W[:1], (1, 2, 0))],
            [True, 3, None])
        self.assertEqual(
            [table_of(3, W), ways_to(3, W, (2, 1, 0)), are_ways(4, W), are_ways(4, (((),), ((0, 1),)))],
            [((2, 1), (4, 0), (0, 3), (5, 2), (1, 5), (3, 4)), (0, 1, 0), True, False])

    def test_are_ways(self):
        self.assertIs(are_ways(4, W[:1]), True)
        self.assertIs(are_ways(4, W * 3), True)
        self.assertIs(are_ways(6, (((4,),) * 24,)), True)
        for value in BAD_WAYS:
            self.assertIs(are_ways(4, value), False, value)

    def test_group_number_and_table(self):
        for bells, ways in many_ways():
            group = group_by_hand(bells, ways)
            self.assertEqual(group_of(bells, ways), group)
            for row in all_rows(bells):
                expected = group.index(row) if row in group else None
                self.assertEqual(number_of(bells, ways, row), expected)
            table = table_of(bells, ways)
            self.assertTrue(is_table(table))
            self.assertEqual(table, tuple(tuple(group.index(ring(row, way)[-1]) for way in ways) for row in group))

    def test_ways_to_is_the_least(self):
        for bells, ways in many_ways()[:32]:
            left = set(group_by_hand(bells, ways))
            for length in range(6 if len(ways) > 3 else 8):
                if not left:
                    break
                for way_tuple in itertools.product(range(len(ways)), repeat=length):
                    row = tuple(range(bells))
                    for way in way_tuple:
                        row = ring(row, ways[way])[-1]
                    if row in left:
                        left.remove(row)
                        self.assertEqual(ways_to(bells, ways, row), way_tuple)
            for row in left:
                self.assertGreater(len(ways_to(bells, ways, row)), length)

    def test_rounds_take_no_way(self):
        for bells in range(2, 7):
            self.assertEqual(ways_to(bells, (((0,),), ((),)), tuple(range(bells))), ())

    def test_some_ways_lead_from_each_row_to_rounds(self):
        for bells, ways in many_ways():
            table = table_of(bells, ways)
            for start in range(len(table)):
                reached = [start]
                for number in reached:
                    reached += [end for end in dict.fromkeys(table[number]) if end not in reached]
                self.assertIn(0, reached)

    def test_smallest_and_greatest_groups(self):
        self.assertEqual(group_of(2, (((),),)), ((0, 1),))
        self.assertEqual(table_of(2, (((),),)), ((0,),))
        self.assertEqual(group_of(6, (((),), ((0,), (0,)))), (tuple(range(6)),))
        self.assertEqual(group_of(6, ALL), tuple(all_rows(6)))
        self.assertEqual(len(table_of(6, ALL + (((0, 2, 4),) * 23,))), 720)
        self.assertEqual(number_of(6, ALL, (5, 4, 3, 2, 1, 0)), 719)
        self.assertEqual(len(ways_to(6, ALL, (5, 4, 3, 2, 1, 0))), 15)
        self.assertTrue(is_table(table_of(6, ALL)))

    def test_errors(self):
        bells, ways = (ODD_BELLS, InvalidBells), (BAD_WAYS, InvalidWays)
        check_errors(self, are_ways, (4, W), [bells, None])
        check_errors(self, group_of, (4, W), [bells, ways])
        check_errors(self, number_of, (4, W, (0, 1, 2, 3)), [bells, ways, (BAD_ROWS, InvalidRow)])
        check_errors(self, table_of, (4, W), [bells, ways])
        outside = [(3, 1, 2, 0), (0, 1, 3, 2)]
        check_errors(self, ways_to, (4, W, (1, 0, 2, 3)), [bells, ways, (BAD_ROWS + outside, InvalidRow)])
        self.assertIsNone(number_of(4, W, (3, 1, 2, 0)))


if __name__ == "__main__":
    unittest.main()
