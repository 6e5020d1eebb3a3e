"""Promise [56]: how many blocks turned lots leave."""

import random
import unittest

from rungonce.blockcounts import block_counts
from rungonce.errors import InvalidSheet
from samples import (BAD_SHEETS, all_lots_by_length, check_errors, check_new_list, count_classes, some_sheet,
                     some_sheets, turn)

S = (((0, 0), (1, 0), (2, 0)), ((0, 1), (1, 1), (2, 1)))


class BlockCounts(unittest.TestCase):
    def test_examples(self):
        self.assertEqual(
            [block_counts(S), block_counts((((0, 0), (0, 1), (0, 2)),)), block_counts((((0, 0), (0, 2), (0, 1)),))],
            [[(1, 4, (0,)), (2, 4, ())], [(1, 1, ()), (3, 1, (0,))], [(1, 2, ())]])

    def check_by_hand(self, sheet):
        counts = [(len(turn(sheet, lot)), lot) for lot in all_lots_by_length(count_classes(sheet))]
        expected = []
        for count in sorted({count for count, _ in counts}):
            lots = [lot for found, lot in counts if found == count]
            expected.append((count, len(lots), min(lots, key=lambda lot: (len(lot), lot))))
        self.assertEqual(block_counts(sheet), expected)

    def test_all_lots(self):
        for sheet in some_sheets(56, 60, 5):
            self.check_by_hand(sheet)

    def test_no_class_and_ten_classes(self):
        self.assertEqual(block_counts(()), [(0, 1, ())])
        for sheet in some_sheets(561, 1, 1) + [()]:
            self.check_by_hand(sheet)
        self.check_by_hand((tuple((label, index) for label in range(10) for index in range(2)),))
        greatest = (tuple((label, index) for label in range(10) for index in range(6)),)
        found = block_counts(greatest)
        self.assertEqual([found[0], found[-1]], [(1, 1, ()), (51, 1, tuple(range(10)))])
        self.assertEqual(sum(many for _, many, _ in found), 2 ** 10)

    def test_ten_classes_of_a_throw(self):
        for sizes in ([2] * 10, [2, 6] * 5, [6] * 10):
            self.check_by_hand(some_sheet(random.Random(sum(sizes)), sizes))

    def test_errors(self):
        check_errors(self, block_counts, (S,), [(BAD_SHEETS, InvalidSheet)])
        check_new_list(self, block_counts, S)


if __name__ == "__main__":
    unittest.main()
