"""Promise [45]: changes and least roads between rows."""

import itertools
import random
import unittest

from rungonce.errors import InvalidRow
from rungonce.rowroads import change_between, least_road
from samples import ODD_VALUES, all_changes, all_rows, check_errors, ring

BAD_ROWS = ODD_VALUES + [(0,), (0, 0), [0, 1], [0, 1, 2], (0, 1, 3), (0, True, 2), (0, 1, 2, 3, 4, 5, 6), 0, (), "012"]


class RowRoads(unittest.TestCase):
    def test_examples(self):
        self.assertEqual(
            [change_between((0, 1, 2, 3), (1, 0, 3, 2)), change_between((0, 1, 2), (2, 0, 1)),
             least_road((0, 1, 2), (2, 1, 0)), least_road((0, 1), (0, 1))],
            [(0, 2), None, ((0,), (1,), (0,)), ()])

    def test_changes_between_rows(self):
        dice = random.Random(45)
        for bells in range(2, 7):
            rows = all_rows(bells)
            for row in rows if bells < 5 else dice.sample(rows, 12):
                behind = {ring(row, (change,))[0]: change for change in all_changes(bells)}
                for other in rows:
                    self.assertEqual(change_between(row, other), behind.get(other))

    def test_a_change_is_between_rows_if_no_bell_is_far_away(self):
        for bells in range(2, 7):
            rounds = tuple(range(bells))
            for row in all_rows(bells):
                near = all(abs(place - bell) < 2 for place, bell in enumerate(row))
                self.assertEqual(change_between(rounds, row) is not None, near)

    def test_least_roads_of_few_bells(self):
        for bells, most in ((2, 1), (3, 3), (4, 4)):
            roads = {}
            for many in range(most + 1):
                for road in itertools.product(all_changes(bells), repeat=many):
                    roads.setdefault((ring(tuple(range(bells)), road) or [tuple(range(bells))])[-1], road)
            self.assertEqual(sorted(roads), all_rows(bells))
            for row in all_rows(bells):
                for way, road in roads.items():
                    other = tuple(row[place] for place in way)
                    self.assertEqual(least_road(row, other), road)

    def test_least_roads_of_many_bells(self):
        dice = random.Random(10)
        for bells in (5, 6):
            changes = all_changes(bells)
            for _ in range(8):
                row, other = dice.choice(all_rows(bells)), dice.choice(all_rows(bells))
                # The rows at each distance, found backward; the road must go down them by the first change.
                distance, last = {other: 0}, [other]
                while last:
                    last = [near for far in last for near in (ring(far, (change,))[0] for change in changes)
                            if distance.setdefault(near, distance[far] + 1) == distance[far] + 1]
                    last = list(dict.fromkeys(last))
                at, expected = row, ()
                while at != other:
                    change = next(change for change in changes
                                  if distance[ring(at, (change,))[0]] == distance[at] - 1)
                    at, expected = ring(at, (change,))[0], expected + (change,)
                self.assertEqual(least_road(row, other), expected)

    def test_a_road_from_a_row_to_itself(self):
        for bells in range(2, 7):
            for row in (tuple(range(bells)), tuple(range(bells))[::-1]):
                self.assertEqual(least_road(row, row), ())
                self.assertEqual(change_between(row, row), ())

    def test_six_bells_turned(self):
        road = least_road((0, 1, 2, 3, 4, 5), (5, 4, 3, 2, 1, 0))
        self.assertEqual(len(road), 6)
        self.assertEqual(ring((0, 1, 2, 3, 4, 5), road)[-1], (5, 4, 3, 2, 1, 0))

    def test_errors(self):
        for function in (change_between, least_road):
            check_errors(self, function, ((0, 1, 2, 3), (1, 0, 2, 3)),
                         [(BAD_ROWS, InvalidRow), (BAD_ROWS + [(0, 1, 2), (0, 1)], InvalidRow)])


if __name__ == "__main__":
    unittest.main()
