"""Promise [78]: tours, their heads, and what their bells do."""

import random
import unittest

from rungonce.errors import InvalidBell, InvalidTour
from rungonce.tours import is_tour, tour_crossings, tour_heads, tour_path
from samples import (BAD_BELL, BAD_TOURS, check_errors, check_new_list, heads_by_hand, outcome, rows_by_hand,
                     some_tour, ways_by_hand)

M = (3, ((0,), (1,)), ((),))
FOUR = (4, ((0, 2), (1,)), ((), (0,)), (0, 2, 1))


class Tours(unittest.TestCase):
    def check_tour(self, tour):
        self.assertIs(is_tour(tour), True)
        bells, lead, calls, composition = tour
        self.assertEqual(tour_heads(tour), heads_by_hand(bells, ways_by_hand(lead, calls), composition))
        rows = rows_by_hand(tour)
        for bell in range(bells):
            self.assertEqual(tour_path(tour, bell), [row.index(bell) for row in rows])
            for other in range(bells):
                crossings = []
                for index in range(len(rows) - 1):
                    order = [[found for found in row if found in (bell, other)] for row in rows[index:index + 2]]
                    if order[0] != order[1]:
                        crossings.append(index)
                self.assertEqual(tour_crossings(tour, bell, other), crossings)
                turned = bell != other and (bell < other) != (rows[-1].index(bell) < rows[-1].index(other))
                self.assertEqual(len(crossings) % 2 == 1, turned)

    def test_examples(self):
        self.assertEqual(
            [tour_heads(M + ((0, 1),)), tour_path(M + ((0,),), 0), tour_crossings(M + ((0,),), 2, 0),
             is_tour(M + ((2,),))],
            [[(0, 1, 2), (1, 2, 0), (2, 1, 0)], [0, 1, 2], [1], False])

    def test_some_tours(self):
        dice = random.Random(78)
        for _ in range(80):
            self.check_tour(some_tour(dice, dice.randint(2, 6), 5, dice.choice((0, 1, 2, 5))))

    def test_no_leads_and_forty(self):
        for bells in range(2, 7):
            tour = (bells, ((0,),), (), ())
            self.check_tour(tour)
            self.assertEqual([tour_heads(tour), tour_path(tour, 1), tour_crossings(tour, 0, 1)],
                             [[tuple(range(bells))], [1], []])
        dice = random.Random(781)
        self.check_tour(some_tour(dice, 5, 24, 40))
        tour = (6, ((0,),) * 24, ((),) * 5, (5,) * 40)
        self.assertEqual([is_tour(tour), len(tour_heads(tour)), len(tour_path(tour, 0))], [True, 41, 961])
        self.assertEqual(tour_crossings(tour, 1, 0), [index for index in range(960) if index % 24 != 23])
        self.assertIs(is_tour(tour[:3] + ((5,) * 41,)), False)

    def test_bells_that_are_one_never_cross(self):
        self.assertEqual(tour_crossings(FOUR, 2, 2), [])
        self.assertEqual(tour_crossings(FOUR, 0, 1), tour_crossings(FOUR, 1, 0))
        self.assertEqual(tour_crossings((2, ((0,), (0,)), (), (0, 0)), 0, 1), [0, 1, 2, 3])

    def test_any_value_may_be_asked_for(self):
        for value in BAD_TOURS:
            self.assertIs(is_tour(value), False, value)
        for tour in (FOUR, (2, ((),), (), ()), (6, ((4,),) * 24, ((0, 2, 4),) * 5, (5,) * 40)):
            self.assertIs(is_tour(tour), True)

    def test_errors(self):
        tours, bells = (BAD_TOURS, InvalidTour), (BAD_BELL, InvalidBell)
        check_errors(self, tour_heads, (FOUR,), [tours])
        check_errors(self, tour_path, (FOUR, 3), [tours, bells])
        check_errors(self, tour_crossings, (FOUR, 3, 0), [tours, bells, bells])
        self.assertIs(outcome(tour_path, M + ((),), 3), InvalidBell)
        check_new_list(self, tour_heads, FOUR)
        check_new_list(self, tour_path, FOUR, 0)
        check_new_list(self, tour_crossings, FOUR, 0, 1)


if __name__ == "__main__":
    unittest.main()
