"""Promise [38]: rows and changes."""

import unittest

from rungonce.errors import InvalidBells, InvalidChange, InvalidRow
from rungonce.rows import behind_change, changes_of, followed_by, is_change, is_row, row_undone
from samples import HUGE, ODD_BELLS, ODD_VALUES, all_changes, all_rows, check_errors, check_new_list, ring

BAD_ROWS = ODD_VALUES + [(0,), (1,), (0, 0), (1, 2), (0, 2), (0, 1, 3), (0, 1, 2, 3, 4, 5, 6), [0, 1, 2], (0, 1, "2"),
                         (0, 1, True), (2, True, 0), (2, 1, False), (0, (1,), 2), (0, 1, HUGE), (0, 1, -2)]
BAD_CHANGES = ODD_VALUES + [0, 1, (3,), (-1,), (2, 0), (0, 0), (0, 1), (1, 2), (0, 2, 3), [0, 2], "02", ("0",)]


class Rows(unittest.TestCase):
    def test_examples(self):
        self.assertEqual(
            [is_row((1, 0, 2)), is_row((0,)), is_change(4, (0, 2)), is_change(4, (0, 1)), changes_of(4),
             behind_change((3, 1, 2, 0), (0, 2))],
            [True, False, True, False, [(), (0,), (0, 2), (1,), (2,)], (1, 3, 0, 2)])
        self.assertEqual(
            [followed_by((0, 2, 1), (1, 0, 2)), followed_by((1, 0, 2), (0, 2, 1)), row_undone((1, 2, 0))],
            [(2, 0, 1), (1, 2, 0), (2, 0, 1)])

    def test_all_rows_are_rows(self):
        for bells in range(2, 7):
            for row in all_rows(bells):
                self.assertIs(is_row(row), True)

    def test_other_values_are_no_rows(self):
        for value in BAD_ROWS + [0, 2, ()]:
            self.assertIs(is_row(value), False, value)

    def test_changes(self):
        for bells, many in zip(range(2, 7), (2, 3, 5, 8, 13)):
            self.assertEqual(changes_of(bells), all_changes(bells))
            self.assertEqual(len(changes_of(bells)), many)
            for change in all_changes(bells):
                self.assertIs(is_change(bells, change), True)
            self.assertIs(is_change(bells, (bells - 1,)), False)
            self.assertIs(is_change(bells, (bells - 2,)), True)
        check_new_list(self, changes_of, 4)

    def test_other_values_are_no_changes(self):
        for value in BAD_CHANGES:
            self.assertIs(is_change(4, value), False, value)
        self.assertIs(is_change(6, (0, 2, 4)), True)
        self.assertIs(is_change(6, (0, 2, 3)), False)
        self.assertIs(is_change(2, ()), True)
        self.assertIs(is_change(2, (1,)), False)

    def test_row_behind_a_change(self):
        for bells in range(2, 6):
            for row in all_rows(bells):
                for change in all_changes(bells):
                    self.assertEqual(behind_change(row, change), ring(row, (change,))[0])
        self.assertEqual(behind_change((5, 4, 3, 2, 1, 0), ()), (5, 4, 3, 2, 1, 0))
        self.assertEqual(behind_change((5, 4, 3, 2, 1, 0), (1, 4)), (5, 3, 4, 2, 0, 1))

    def test_followed_by(self):
        for bells in (2, 3, 4):
            for row in all_rows(bells):
                for other in all_rows(bells):
                    made = followed_by(row, other)
                    self.assertEqual([made[i] for i in range(bells)], [row[other[i]] for i in range(bells)])

    def test_row_undone(self):
        for bells in range(2, 7):
            for row in all_rows(bells):
                self.assertEqual(followed_by(row, row_undone(row)), tuple(range(bells)))

    def test_errors(self):
        check_errors(self, is_change, (4, (0,)), [(ODD_BELLS, InvalidBells), None])
        check_errors(self, changes_of, (4,), [(ODD_BELLS, InvalidBells)])
        check_errors(self, behind_change, ((0, 1, 2, 3), (0,)), [(BAD_ROWS, InvalidRow), (BAD_CHANGES, InvalidChange)])
        check_errors(self, followed_by, ((0, 1, 2, 3), (1, 0, 2, 3)),
                     [(BAD_ROWS, InvalidRow), (BAD_ROWS + [(1, 0, 2), (0, 1, 2, 3, 4)], InvalidRow)])
        check_errors(self, row_undone, ((0, 1, 2, 3),), [(BAD_ROWS, InvalidRow)])

    def test_change_must_be_of_as_many_bells_as_the_row(self):
        self.assertEqual(behind_change((0, 1, 2, 3), (2,)), (0, 1, 3, 2))
        with self.assertRaises(InvalidChange):
            behind_change((0, 1, 2), (2,))


if __name__ == "__main__":
    unittest.main()
