"""Promise [57]: which stands stand in one block."""

import itertools
import unittest

from rungonce.errors import InvalidLot, InvalidSheet, InvalidStand
from rungonce.standing import apart_lot, stand_together, together_lot
from samples import (BAD_LOTS, BAD_SHEETS, HUGE, ODD_VALUES, all_lots_by_length, check_errors, count_classes,
                     outcome, some_sheets, turn)

S = (((0, 0), (1, 0), (2, 0)), ((0, 1), (1, 1), (2, 1)))
BAD_STANDS = ODD_VALUES + [0, (), (0,), (0, 0, 0), (0, 2), (3, 0), (0, -1), (-1, 0), [0, 0], (0, False), (True, 0),
                           (0, None), ("0", 0), (0, HUGE), (HUGE, 0), ((0, 0),), ((0, 0), (0, 1)), "00"]


class Standing(unittest.TestCase):
    def test_examples(self):
        self.assertEqual(
            [stand_together(S, (0, 1), (0, 0), (1, 0)), together_lot(S, (0, 0), (0, 1)), apart_lot(S, (0, 0), (1, 0)),
             apart_lot(S, (2, 1), (2, 1))],
            [False, (0,), (0, 1), None])

    def test_all_pairs_of_stands(self):
        for sheet in some_sheets(57, 30, 4, 4):
            lots = all_lots_by_length(count_classes(sheet))
            turned = {lot: turn(sheet, lot) for lot in lots}
            for stand, mate in itertools.product([stand for block in sheet for stand in block], repeat=2):
                together = [lot for lot in lots if any(stand in block and mate in block for block in turned[lot])]
                for lot in lots:
                    self.assertIs(stand_together(sheet, lot, stand, mate), lot in together)
                self.assertEqual(together_lot(sheet, stand, mate), together[0] if together else None)
                apart = [lot for lot in lots if lot not in together]
                self.assertEqual(apart_lot(sheet, stand, mate), apart[0] if apart else None)

    def test_the_shorter_lot_first(self):
        # (0, 1) joins, and (0, 2) parts, these two stands, and each of both comes earlier in Python's order.
        apart = (((0, 0),), ((0, 1),), ((1, 0),), ((1, 1),))
        self.assertEqual([together_lot(apart, (1, 1), (1, 0)), stand_together(apart, (0, 1), (1, 1), (1, 0))],
                         [(1,), True])
        block = (((0, 0), (1, 1), (0, 1), (1, 0), (2, 1), (2, 0)),)
        self.assertEqual([apart_lot(block, (2, 0), (2, 1)), stand_together(block, (0, 2), (2, 0), (2, 1))],
                         [(2,), False])

    def test_one_stand_twice(self):
        for sheet in some_sheets(571, 10, 5):
            for stand in [stand for block in sheet for stand in block]:
                self.assertEqual([together_lot(sheet, stand, stand), apart_lot(sheet, stand, stand)], [(), None])

    def test_ten_classes(self):
        apart = tuple(((label, 0), (label, 1)) for label in range(10))
        self.assertIsNone(together_lot(apart, (0, 0), (9, 1)))
        self.assertEqual(apart_lot(apart, (9, 0), (9, 1)), (9,))
        self.assertIs(stand_together(apart, tuple(range(10)), (3, 0), (3, 1)), False)

    def test_errors(self):
        sheets, lots, stands = (BAD_SHEETS, InvalidSheet), (BAD_LOTS, InvalidLot), (BAD_STANDS, InvalidStand)
        check_errors(self, stand_together, (S, (0, 1), (0, 0), (1, 0)), [sheets, lots, stands, stands])
        for function in (together_lot, apart_lot):
            check_errors(self, function, (S, (0, 0), (1, 0)), [sheets, stands, stands])
        self.assertIs(outcome(together_lot, (), (0, 0), (0, 0)), InvalidStand)


if __name__ == "__main__":
    unittest.main()
