"""Promise [43]: places that stand, and the numbers of rows."""

import itertools
import unittest

from rungonce.errors import InvalidBells, InvalidChange, InvalidNumber, InvalidPlaces, InvalidRow
from rungonce.rowplaces import change_standing, pairs_turned, row_at, row_number, stands_at
from samples import HUGE, ODD_BELLS, ODD_INTEGERS, ODD_VALUES, all_changes, all_rows, check_errors

BAD_CHANGES = ODD_VALUES + [0, (3,), (0, 1), (2, 0), [0], (True,)]
BAD_PLACES = ODD_VALUES + [0, (4,), (0, 0), (1, 0), [0, 3], (0, True), (False, 3), "03", ("0",), ((0, 3),), (0, HUGE)]
BAD_ROWS = ODD_VALUES + [(0,), (0, 0), [0, 1], (0, 1, 2, 3, 4, 5, 6), 0, ()]


class RowPlaces(unittest.TestCase):
    def test_examples(self):
        self.assertEqual(
            [stands_at(4, (1,)), stands_at(4, (0, 2)), change_standing(4, (0, 3)), change_standing(4, (1, 3)),
             change_standing(3, ())],
            [(0, 3), (), (1,), None, None])
        self.assertEqual([row_number((1, 0, 2)), row_at(3, 4), pairs_turned((2, 1, 0))], [2, (2, 0, 1), 3])

    def test_places_that_stand(self):
        for bells in range(2, 7):
            for change in all_changes(bells):
                moved = {place for low in change for place in (low, low + 1)}
                expected = tuple(place for place in range(bells) if place not in moved)
                self.assertEqual(stands_at(bells, change), expected)

    def test_change_by_its_standing_places(self):
        for bells in range(2, 7):
            known = {stands_at(bells, change): change for change in all_changes(bells)}
            for many in range(bells + 1):
                for places in itertools.combinations(range(bells), many):
                    self.assertEqual(change_standing(bells, places), known.get(places))

    def test_places_stand_if_even_numbers_are_left_between_them(self):
        for bells in range(2, 7):
            for many in range(bells + 1):
                for places in itertools.combinations(range(bells), many):
                    walls = (-1,) + places + (bells,)
                    even = all((high - low) % 2 == 1 for low, high in zip(walls, walls[1:]))
                    self.assertEqual(change_standing(bells, places) is not None, even)

    def test_rows_have_numbers(self):
        for bells in range(2, 7):
            for number, row in enumerate(all_rows(bells)):
                self.assertEqual(row_number(row), number)
                self.assertEqual(row_at(bells, number), row)

    def test_pairs_turned(self):
        for bells in range(2, 7):
            for row in all_rows(bells):
                expected = sum(1 for ahead, behind in itertools.combinations(row, 2) if ahead > behind)
                self.assertEqual(pairs_turned(row), expected)

    def test_errors(self):
        bells = (ODD_BELLS, InvalidBells)
        check_errors(self, stands_at, (4, (1,)), [bells, (BAD_CHANGES, InvalidChange)])
        # () is an ascending tuple of places.
        check_errors(self, change_standing, (4, (0, 3)), [bells, (BAD_PLACES, InvalidPlaces)])
        check_errors(self, row_number, ((0, 1, 2),), [(BAD_ROWS, InvalidRow)])
        check_errors(self, pairs_turned, ((0, 1, 2),), [(BAD_ROWS, InvalidRow)])
        for many, count in zip(range(2, 7), (2, 6, 24, 120, 720)):
            check_errors(self, row_at, (many, count - 1), [bells, (ODD_INTEGERS + [count], InvalidNumber)])


if __name__ == "__main__":
    unittest.main()
