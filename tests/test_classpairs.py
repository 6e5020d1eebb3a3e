"""Promise [48]: classes of two ways beside those of two others."""

import itertools
import unittest

from rungonce.classes import class_of, classes_of
from rungonce.classpairs import common_lots, first_parted, joined_lots, pairs_with
from rungonce.errors import InvalidNumbers, InvalidTable, InvalidWay
from rungonce.groups import table_of
from samples import BAD_TABLES, HUGE, ODD_INTEGERS, ODD_VALUES, check_errors, check_new_list, some_tables

U = ((1, 1, 0), (0, 0, 2), (2, 3, 1), (3, 2, 3))


def lots_of(count, are_together):
    """The lots that come of putting numbers together, from one to the next."""
    left, lots = list(range(count)), []
    while left:
        lot = [left[0]]
        for number in lot:
            lot += [other for other in left if other not in lot and are_together(number, other)]
        left = [number for number in left if number not in lot]
        lots.append(tuple(sorted(lot)))
    return sorted(lots)


class ClassPairs(unittest.TestCase):
    def test_examples(self):
        self.assertEqual(
            [first_parted(U, 0, 1, 0, 2), first_parted(U, 0, 2, 0, 1), common_lots(U, 0, 1, 0, 2),
             joined_lots(U, 0, 1, 0, 2), pairs_with(U, (0, 1, 2))],
            [(2, 3), (0, 1), [(0,), (1,), (2,), (3,)], [(0, 1, 2, 3)], [(0, 2)]])

    def test_lots_and_parted_numbers(self):
        for table in some_tables(48, 60, 10, 5):
            ways = range(len(table[0]))
            for one, two, three, four in list(itertools.product(ways, repeat=4))[::7]:
                self.check_lots(table, one, two, three, four)

    def check_lots(self, table, one, two, three, four):
        def first(g, h):
            return any(g in numbers and h in numbers for numbers in classes_of(table, one, two))

        def other(g, h):
            return any(g in numbers and h in numbers for numbers in classes_of(table, three, four))

        count = len(table)
        parted = [pair for pair in itertools.combinations(range(count), 2) if first(*pair) and not other(*pair)]
        self.assertEqual(first_parted(table, one, two, three, four), min(parted, default=None))
        self.assertEqual(common_lots(table, one, two, three, four),
                         lots_of(count, lambda g, h: first(g, h) and other(g, h)))
        self.assertEqual(joined_lots(table, one, two, three, four),
                         lots_of(count, lambda g, h: first(g, h) or other(g, h)))

    def test_pairs_with(self):
        for table in some_tables(8, 60, 5, 6):
            ways = range(len(table[0]))
            for many in range(len(table) + 1):
                for numbers in itertools.combinations(range(len(table)), many):
                    expected = [(one, two) for one, two in itertools.combinations(ways, 2)
                                if numbers in [tuple(sorted(found)) for found in classes_of(table, one, two)]]
                    self.assertEqual(pairs_with(table, numbers), expected)

    def test_one_way_and_six(self):
        self.assertEqual(pairs_with(((0,),), (0,)), [])
        self.assertEqual(first_parted(((0,),), 0, 0, 0, 0), None)
        self.assertEqual(common_lots(((0,),), 0, 0, 0, 0), [(0,)])
        alike = tuple((at,) * 6 for at in range(3))
        self.assertEqual(pairs_with(alike, (1,)), list(itertools.combinations(range(6), 2)))
        self.assertEqual(pairs_with(alike, (0, 1)), [])
        self.assertEqual(pairs_with(alike, ()), [])
        self.assertEqual(joined_lots(alike, 0, 5, 5, 0), [(0,), (1,), (2,)])

    def test_great_tables(self):
        turn = tuple((at, (at + 1) % 720, at // 2 * 2 + 1 - at % 2) for at in range(720))
        self.assertEqual(pairs_with(turn, tuple(range(720))), [(0, 1)])
        self.assertEqual(first_parted(turn, 0, 1, 0, 2), (0, 2))
        self.assertIsNone(first_parted(turn, 0, 2, 0, 1))
        self.assertEqual(common_lots(turn, 0, 1, 0, 2), [(at, at + 1) for at in range(0, 720, 2)])
        self.assertEqual(joined_lots(turn, 0, 2, 0, 0), [(at, at + 1) for at in range(0, 720, 2)])

    def test_in_a_table_of_ways_classes_lie_within_others_as_that_of_0_does(self):
        table = table_of(4, (((0,), (1,)), ((2,),), ((0, 2), (1,)), ((), (0,))))
        for one, two, three, four in itertools.product(range(4), repeat=4):
            within = set(class_of(table, one, two, 0)) <= set(class_of(table, three, four, 0))
            self.assertEqual(first_parted(table, one, two, three, four) is None, within)

    def test_errors(self):
        tables, ways = (BAD_TABLES, InvalidTable), (ODD_INTEGERS + [3], InvalidWay)
        for function in (first_parted, common_lots, joined_lots):
            check_errors(self, function, (U, 0, 1, 0, 2), [tables, ways, ways, ways, ways])
        wrong = ODD_VALUES + [0, (4,), (1, 0), (0, 0), [0, 1], (0, True), (False,), ((0,),), "0", (0, HUGE)]
        check_errors(self, pairs_with, (U, (0, 1, 2)), [tables, (wrong, InvalidNumbers)])
        check_new_list(self, pairs_with, U, (0, 1, 2))
        check_new_list(self, common_lots, U, 0, 1, 0, 2)
        check_new_list(self, joined_lots, U, 0, 1, 0, 2)


if __name__ == "__main__":
    unittest.main()
