"""Promise [64]: lots of numbers, and choices that serve them."""

import itertools
import unittest

from rungonce.errors import InvalidChoice, InvalidLot, InvalidTable, NotOne
from rungonce.groups import table_of
from rungonce.lots import blocks_of_lot, does_serve, is_lot
from samples import (BAD_NUMBER_LOTS, BAD_TABLES, ODD_VALUES, all_lots_by_length, check_errors, check_new_list, outcome,
                     some_tables, written)

T = table_of(3, (((0,),), ((1,),)))
LOT = (0, 2, 3, 5)
BAD_LOT_CHOICES = ODD_VALUES + [(), 0, (0, 0, 0), (0,) * 5, (0,) * 6, [0] * 4, (0, 0, 0, 2), (0, 0, 0, -1),
                                (0, 0, 0, False), (True,) * 4, (0, 0, 0, None), "0000", ((0,), (0,), (0,), (0,))]


class Lots(unittest.TestCase):
    def test_examples(self):
        self.assertEqual(
            [is_lot(T, (0, 2)), is_lot(T, (2, 0)), does_serve(T, (0, 2, 3, 5), (0, 0, 0, 0)),
             does_serve(T, (0, 1), (1, 0)), blocks_of_lot(T, (0, 2, 3, 5), (0, 0, 0, 0))],
            [True, False, True, False, [(0, 2), (3, 5)]])

    def test_all_lots_and_choices(self):
        served = 0
        for table in some_tables(64, 40, 5, 3):
            for lot in all_lots_by_length(len(table)):
                self.assertIs(is_lot(table, lot), True)
                for choice in itertools.product(range(len(table[0])), repeat=len(lot)):
                    steps = {number: table[number][way] for number, way in zip(lot, choice)}
                    serves = set(steps.values()) == set(lot)
                    self.assertIs(does_serve(table, lot, choice), serves)
                    self.assertEqual(outcome(blocks_of_lot, table, lot, choice),
                                     list(written(steps)) if serves else NotOne)
                    served += serves
        self.assertGreater(served, 200)

    def test_no_number_and_all_numbers(self):
        self.assertEqual([is_lot(T, ()), does_serve(T, (), ()), blocks_of_lot(T, (), ())], [True, True, []])
        turn = tuple(((at + 1) % 720, at) for at in range(720))
        full = tuple(range(720))
        self.assertEqual([is_lot(turn, full), does_serve(turn, full, (0,) * 720)], [True, True])
        self.assertEqual(blocks_of_lot(turn, full, (0,) * 720), [full])
        self.assertEqual(blocks_of_lot(turn, full, (1,) * 720), [(at,) for at in range(720)])
        self.assertIs(outcome(blocks_of_lot, turn, full, (1,) + (0,) * 719), NotOne)

    def test_within_the_lot_or_not(self):
        # Next ones that are unlike, but not all in the lot, and such that are in the lot, but not unlike.
        self.assertIs(does_serve(((1,), (2,), (0,)), (0, 1), (0, 0)), False)
        self.assertIs(does_serve(((0, 1), (1, 0)), (0, 1), (0, 1)), False)

    def test_any_value_may_be_asked_for(self):
        for value in BAD_NUMBER_LOTS:
            self.assertIs(is_lot(T, value), False)

    def test_errors(self):
        tables, lots = (BAD_TABLES, InvalidTable), (BAD_NUMBER_LOTS, InvalidLot)
        choices = (BAD_LOT_CHOICES, InvalidChoice)
        check_errors(self, is_lot, (T, LOT), [tables, None])
        for function in (does_serve, blocks_of_lot):
            check_errors(self, function, (T, LOT, (0, 0, 0, 0)), [tables, lots, choices])
        self.assertIs(outcome(does_serve, T, (), (0,)), InvalidChoice)
        check_new_list(self, blocks_of_lot, T, LOT, (0, 0, 0, 0))


if __name__ == "__main__":
    unittest.main()
