"""Promise [59]: the pairs of a sheet with one block."""

import random
import unittest

from rungonce.errors import InvalidSheet, TooMany
from rungonce.sheetpairs import sheet_pairs
from rungonce.sheets import is_sheet
from samples import (BAD_SHEETS, all_lots_by_length, check_errors, check_limit, count_classes, outcome, size_in,
                     some_sheet, turn)

NOT_ONE_BLOCK = [(), (((0, 0),), ((0, 1),)), (((0, 0), (0, 1)), ((1, 0), (1, 1)))]


def some_sizes(dice, most):
    """Sizes of classes in the place of which there are at most so many pairs."""
    sizes = []
    while not sizes or dice.random() < 0.7:
        sizes.append(dice.randint(2, 6))
    return sizes if sum(sizes) - len(sizes) <= most else some_sizes(dice, most)


class SheetPairs(unittest.TestCase):
    def test_example(self):
        self.assertEqual(sheet_pairs((((0, 0), (0, 2), (0, 1)),)), (((0, 0), (1, 0), (0, 1), (1, 1)),))

    def test_each_sheet_by_the_words(self):
        dice = random.Random(59)
        for _ in range(120):
            sizes = some_sizes(dice, 10)
            sheet = some_sheet(dice, sizes, 1)
            expected = []
            for label, index in sheet[0]:
                first = sum(size - 1 for size in sizes[:label])
                pairs = [first + at for at in range(sizes[label] - 1)]
                if index == 0:
                    expected += [(pair, 0) for pair in pairs]
                else:
                    expected.append((pairs[sizes[label] - 1 - index], 1))
            self.assertEqual(sheet_pairs(sheet), (tuple(expected),))
            self.assertTrue(is_sheet(sheet_pairs(sheet)))

    def test_as_many_blocks(self):
        dice = random.Random(591)
        for _ in range(60):
            sheet = some_sheet(dice, some_sizes(dice, 8), 1)
            pairs = sheet_pairs(sheet)
            sizes = [size_in(sheet, label) for label in range(count_classes(sheet))]
            for lot in all_lots_by_length(len(sizes)):
                instead = []
                for label in lot:
                    first = sum(size - 1 for size in sizes[:label])
                    instead += list(range(first, first + sizes[label] - 1))
                self.assertEqual(len(turn(pairs, tuple(instead))), len(turn(sheet, lot)))

    def test_pairs_stay_as_they_are(self):
        dice = random.Random(592)
        for count in range(1, 11):
            sheet = some_sheet(dice, [2] * count, 1)
            self.assertEqual(sheet_pairs(sheet), sheet)

    def test_limit_of_ten_classes(self):
        dice = random.Random(593)
        for sizes in ([6, 6], [3] * 5, [2] * 10, [6, 5, 2], [2, 2, 6, 4]):
            pairs = sheet_pairs(some_sheet(dice, sizes, 1))
            self.assertEqual(len(pairs[0]), 20)
        for sizes in ([6, 6, 2], [3] * 5 + [2], [3] + [2] * 9, [6] * 10):
            check_limit(self, 10, sheet_pairs, some_sheet(dice, sizes, 1))

    def test_errors(self):
        six = tuple((0, index) for index in range(6))
        check_errors(self, sheet_pairs, ((six,),), [(BAD_SHEETS + NOT_ONE_BLOCK, InvalidSheet)])
        # The limit comes last.
        more = tuple((label, index) for label in (1, 2) for index in range(6))
        self.assertIs(outcome(sheet_pairs, (six, more)), InvalidSheet)
        self.assertIs(outcome(sheet_pairs, (six + more,)), TooMany)


if __name__ == "__main__":
    unittest.main()
