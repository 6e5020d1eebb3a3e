"""Promise [46]: rings of rows, and how many leads lead home."""

import random
import unittest

from rungonce.errors import InvalidBells, InvalidLead, InvalidRow
from rungonce.rowrings import leads_home, rings_of
from samples import BAD_LEADS, ODD_BELLS, ODD_VALUES, all_rows, check_errors, check_new_list, ring, some_lead

BAD_ROWS = ODD_VALUES + [(0,), (0, 0), [0, 1], (0, 1, 3), (0, True, 2), (0, 1, 2, 3, 4, 5, 6), 0, (), "012"]


class RowRings(unittest.TestCase):
    def test_examples(self):
        self.assertEqual([rings_of((1, 2, 0, 3)), leads_home(3, ((0,), (1,))), leads_home(4, ((), ))],
                         [[(0, 1, 2), (3,)], 3, 1])

    def test_rings(self):
        for bells in range(2, 7):
            for row in all_rows(bells):
                rings = rings_of(row)
                self.assertEqual(rings, sorted(rings))
                self.assertEqual(sorted(place for places in rings for place in places), list(range(bells)))
                for places in rings:
                    self.assertEqual(places[0], min(places))
                    self.assertEqual(tuple(row[place] for place in places), places[1:] + places[:1])
        check_new_list(self, rings_of, (1, 0))

    def test_leads_home(self):
        dice = random.Random(46)
        for bells in range(2, 7):
            for _ in range(50):
                lead = some_lead(dice, bells, 24)
                row, many = ring(tuple(range(bells)), lead)[-1], 1
                while row != tuple(range(bells)):
                    row, many = ring(row, lead)[-1], many + 1
                self.assertEqual(leads_home(bells, lead), many)
        # Rings of two and three places: the least number that both divide.
        self.assertEqual(leads_home(6, ((0, 3), (4,))), 6)
        self.assertEqual(leads_home(2, ((0,),)), 2)
        self.assertEqual(leads_home(2, ((0,), (0,))), 1)

    def test_errors(self):
        check_errors(self, rings_of, ((0, 1, 2),), [(BAD_ROWS, InvalidRow)])
        check_errors(self, leads_home, (4, ((0,),)), [(ODD_BELLS, InvalidBells), (BAD_LEADS, InvalidLead)])


if __name__ == "__main__":
    unittest.main()
