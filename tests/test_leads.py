"""Promise [39]: leads, and the rows that they ring."""

import random
import unittest

from rungonce.errors import InvalidBells, InvalidLead, InvalidRow
from rungonce.leads import acting_row, is_lead, led_to, rows_rung
from rungonce.rows import followed_by
from samples import (BAD_LEADS, ODD_BELLS, ODD_VALUES, all_changes, all_rows, check_errors, check_new_list, ring,
                     some_lead)

BAD_ROWS = [(0,), (0, 0), [0, 1, 2, 3], (0, 1, True, 3), None, "0123", 3, (1, 2, 3, 4)]


class Leads(unittest.TestCase):
    def test_examples(self):
        self.assertEqual(
            [is_lead(3, ((0,), ())), is_lead(3, ()), rows_rung((0, 1, 2), ((0,), (1,))),
             led_to((2, 0, 1), ((0,), (1,))), acting_row(3, ((0,), (1,)))],
            [True, False, [(1, 0, 2), (1, 2, 0)], (0, 1, 2), (1, 2, 0)])

    def test_is_lead(self):
        self.assertIs(is_lead(4, ((),)), True)
        self.assertIs(is_lead(4, ((),) * 24), True)
        self.assertIs(is_lead(2, ((0,), (), (0,))), True)
        self.assertIs(is_lead(6, ((0, 2, 4), (1, 3), (4,))), True)
        for value in BAD_LEADS:
            self.assertIs(is_lead(4, value), False, value)
        self.assertIs(is_lead(3, ((2,),)), False)

    def test_rows_rung(self):
        dice = random.Random(39)
        for bells in range(2, 7):
            for _ in range(40):
                lead, row = some_lead(dice, bells, 24), dice.choice(all_rows(bells))
                self.assertEqual(rows_rung(row, lead), ring(row, lead))
                self.assertEqual(led_to(row, lead), ring(row, lead)[-1])
        self.assertEqual(rows_rung((1, 0), ((),)), [(1, 0)])
        self.assertEqual(len(rows_rung((1, 0, 2), ((0,),) * 24)), 24)
        check_new_list(self, rows_rung, (1, 0, 2), ((0,), (1,)))

    def test_a_row_is_led_to_itself_followed_by_the_acting_row(self):
        dice = random.Random(3)
        for bells in range(2, 7):
            for _ in range(40):
                lead, row = some_lead(dice, bells, 24), dice.choice(all_rows(bells))
                acting = acting_row(bells, lead)
                self.assertEqual(acting, ring(tuple(range(bells)), lead)[-1])
                self.assertEqual(led_to(row, lead), followed_by(row, acting))

    def test_errors(self):
        lead = ((0,), (1,))
        check_errors(self, is_lead, (4, lead), [(ODD_BELLS, InvalidBells), None])
        for function in (rows_rung, led_to):
            check_errors(self, function, ((0, 1, 2, 3), lead),
                         [(BAD_ROWS + ODD_VALUES, InvalidRow), (BAD_LEADS, InvalidLead)])
            with self.assertRaises(InvalidLead):
                function((0, 1, 2), ((2,),))
        check_errors(self, acting_row, (4, lead), [(ODD_BELLS, InvalidBells), (BAD_LEADS, InvalidLead)])

    def test_changes_of_all_bells_stand_in_leads(self):
        for bells in range(2, 7):
            for change in all_changes(bells):
                self.assertIs(is_lead(bells, (change, ())), True)


if __name__ == "__main__":
    unittest.main()
