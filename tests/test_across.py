"""Promise [58]: sheets of pairs, and which classes are across."""

import itertools
import random
import unittest

from rungonce.across import across_table, even_lot, is_even_lot, undone_table, unlike_lot
from rungonce.errors import InvalidLot, InvalidSheet
from samples import BAD_LOTS, BAD_SHEETS, ODD_VALUES, all_lots_by_length, check_errors, outcome, some_sheet, turn

P = (((0, 0), (1, 0), (2, 0), (0, 1), (1, 1), (2, 1)),)
BAD_PAIR_SHEETS = BAD_SHEETS + [
    (), (((0, 0), (0, 1), (0, 2)),), (((0, 0), (0, 1)), ((1, 0), (1, 1))), (((0, 0),), ((0, 1),)),
    (((0, 0), (1, 0), (0, 1), (1, 1), (0, 2)),), (((0, 0), (1, 0), (0, 1), (1, 1), (1, 2)),),
]


def pair_sheets(seed, many, most):
    dice = random.Random(seed)
    return [some_sheet(dice, [2] * dice.randint(1, most), 1) for _ in range(many)]


def across_by_hand(sheet, label, other):
    """Whether each of both stretches between the stands of the one has a stand of the other one."""
    if label == other:
        return False
    block = sheet[0] * 2
    stretches = []
    for index in (0, 1):
        at = block.index((label, index)) + 1
        stretch = []
        while block[at] != (label, 1 - index):
            stretch.append(block[at][0])
            at += 1
        stretches.append(stretch)
    return all(other in stretch for stretch in stretches)


def is_even(sheet, lot, part):
    return part != () and all(label in lot for label in part) and all(
        len([other for other in part if across_by_hand(sheet, label, other)]) % 2 == 0 for label in lot)


def classes_of(sheet):
    return tuple(range(len(sheet[0]) // 2))


class Across(unittest.TestCase):
    def test_examples(self):
        self.assertEqual(
            [across_table(P), even_lot(P, (0, 1, 2)), undone_table(P, (0, 2)), is_even_lot(P, (0, 1), (0, 1))],
            [((1, 2), (0, 2), (0, 1)), (0, 1, 2), ((2,), (0,)), False])
        self.assertEqual(
            [undone_table(P, (0, 1, 2)), unlike_lot(P, (((0, 0), (0, 1), (1, 0), (1, 1), (2, 0), (2, 1)),))],
            [None, (0, 1)])

    def test_across_table(self):
        for sheet in pair_sheets(58, 60, 10):
            labels = classes_of(sheet)
            self.assertEqual(across_table(sheet), tuple(
                tuple(other for other in labels if across_by_hand(sheet, label, other)) for label in labels))

    def test_even_lots_and_undone_tables(self):
        for sheet in pair_sheets(581, 40, 6):
            for lot in all_lots_by_length(len(classes_of(sheet))):
                parts = [tuple(lot[at] for at in chosen) for chosen in all_lots_by_length(len(lot))]
                even = [part for part in parts if is_even(sheet, lot, part)]
                self.assertEqual(even_lot(sheet, lot) in even, bool(even))
                self.assertEqual(even_lot(sheet, lot) is None, not even)
                self.assertEqual(len(turn(sheet, lot)) == 1, not even)
                undone = undone_table(sheet, lot)
                if even:
                    self.assertIsNone(undone)
                else:
                    self.check_undone(sheet, lot, parts, undone)

    def check_undone(self, sheet, lot, parts, undone):
        self.assertEqual(len(undone), len(lot))
        for label, members in zip(lot, undone):
            self.assertIn(members, parts)
            odd = [other for other in lot
                   if len([member for member in members if across_by_hand(sheet, other, member)]) % 2 == 1]
            self.assertEqual(odd, [label])

    def test_is_even_lot(self):
        for sheet in pair_sheets(582, 15, 5):
            lots = all_lots_by_length(len(classes_of(sheet)))
            for lot, part in itertools.product(lots, lots):
                self.assertIs(is_even_lot(sheet, lot, part), is_even(sheet, lot, part))
        for value in ODD_VALUES + [(), 0, (0, 1, 1), (2, 1, 0), [0, 1, 2], (0, 1, 2, 3), (False, 1, 2), "012", (3,)]:
            self.assertIs(is_even_lot(P, (0, 1, 2), value), False)
        self.assertIs(is_even_lot(P, (0, 1, 2), (0, 1, 2)), True)
        self.assertIs(is_even_lot(P, (), ()), False)
        self.assertIs(is_even_lot(P, (0,), (0,)), True)
        self.assertIs(is_even_lot(P, (0, 1), (0, 1, 2)), False)

    def test_empty_lot(self):
        for sheet in pair_sheets(583, 10, 10):
            self.assertEqual([even_lot(sheet, ()), undone_table(sheet, ())], [None, ()])
            self.assertEqual(even_lot(sheet, (0,)), (0,))

    def test_unlike_lots(self):
        dice = random.Random(584)
        for _ in range(80):
            count = dice.randint(1, 6)
            sheet, other = some_sheet(dice, [2] * count, 1), some_sheet(dice, [2] * count, 1)
            unlike = [lot for lot in all_lots_by_length(count) if len(turn(sheet, lot)) != len(turn(other, lot))]
            self.assertEqual(unlike_lot(sheet, other), unlike[0] if unlike else None)
            self.assertIsNone(unlike_lot(sheet, sheet))

    def test_ten_classes(self):
        ten = tuple(range(10))
        sheet = (tuple((label, 0) for label in ten) + tuple((label, 1) for label in ten),)
        self.assertEqual(across_table(sheet), tuple(tuple(other for other in ten if other != label) for label in ten))
        self.assertIsNone(even_lot(sheet, ten))
        self.assertEqual(undone_table(sheet, ten), across_table(sheet))
        self.assertEqual(even_lot(sheet, ten[:9]), ten[:9])
        apart = (tuple((label, index) for label in ten for index in (0, 1)),)
        self.assertEqual(unlike_lot(sheet, apart), (0, 1))
        self.assertEqual(across_table(apart), ((),) * 10)
        nearly = (sheet[0][:8] + ((9, 0), (8, 0)) + sheet[0][10:],)
        self.assertEqual(unlike_lot(sheet, nearly), (8, 9))

    def test_errors(self):
        sheets, lots = (BAD_PAIR_SHEETS, InvalidSheet), (BAD_LOTS, InvalidLot)
        check_errors(self, across_table, (P,), [sheets])
        for function in (even_lot, undone_table):
            check_errors(self, function, (P, (0, 2)), [sheets, lots])
        check_errors(self, is_even_lot, (P, (0, 2), (0,)), [sheets, lots, None])
        fewer = [(((0, 0), (0, 1)),), (((0, 0), (1, 0), (0, 1), (1, 1)),)]
        check_errors(self, unlike_lot, (P, P), [(BAD_PAIR_SHEETS + fewer, InvalidSheet)] * 2)
        self.assertIs(outcome(even_lot, fewer[0], (1,)), InvalidLot)


if __name__ == "__main__":
    unittest.main()
