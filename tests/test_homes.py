"""Promise [79]: homes of tours, and true ones."""

import itertools
import random
import unittest

from rungonce.errors import InvalidMany, InvalidTour
from rungonce.homes import least_home, open_ways, true_home
from samples import (BAD_TOURS, ODD_INTEGERS, all_changes, check_errors, check_new_list, fault_by_hand, rows_by_hand,
                     some_tour)

M = (3, ((0,), (1,)), ((),))


def led_on(tour, home):
    return tour[:3] + (tour[3] + home,)


def homes_by_hand(tour, many):
    """All homes of at most so many items, in their order, each with whether it is true."""
    homes = []
    for count in range(min(many, 40 - len(tour[3])) + 1):
        for home in itertools.product(range(len(tour[2]) + 1), repeat=count):
            rows = rows_by_hand(led_on(tour, home))
            if len(rows) > 1 and rows[-1] == rows[0]:
                homes.append((home, fault_by_hand(rows) is None))
    return homes


class Homes(unittest.TestCase):
    def check_tour(self, tour, many):
        homes = homes_by_hand(tour, many)
        true = [home for home, is_true in homes if is_true]
        self.assertEqual(true_home(tour, many), true[0] if true else None)
        self.assertEqual(open_ways(tour, many), sorted({home[0] for home in true if home}))
        least = least_home(tour)
        if homes:
            self.assertEqual(least, homes[0][0])
        else:
            self.assertTrue(least is None or len(least) > many)
        if least is not None:
            rows = rows_by_hand(led_on(tour, least))
            self.assertTrue(len(rows) > 1 and rows[-1] == rows[0] and len(tour[3] + least) <= 40)
        return homes, true

    def test_examples(self):
        self.assertEqual(
            [least_home(M + ((0,),)), least_home(M + ((),)), true_home(M + ((0,),), 2), true_home(M + ((0,),), 1),
             open_ways(M + ((0,),), 4)],
            [(0, 0), (1, 1), (0, 0), None, [0]])

    def test_some_tours(self):
        dice = random.Random(79)
        found = set()
        for _ in range(250):
            bells = dice.choice((2, 3, 3, 4, 4, 5, 6))
            tour = some_tour(dice, bells, 4, dice.choice((0, 0, 1, 1, 2, 3)))
            many = dice.randint(0, 4 if len(tour[2]) < 4 else 3)
            homes, true = self.check_tour(tour, many)
            found.add((homes != [], true != [], homes != [] and true != [] and true[0] != homes[0][0]))
        self.assertEqual(found, {(False, False, False), (True, False, False), (True, True, False), (True, True, True)})

    def test_all_short_tours_of_three_bells(self):
        for lead in itertools.product(all_changes(3), repeat=2):
            for many in range(4):
                for composition in itertools.product((0, 1), repeat=many):
                    self.check_tour((3, lead, ((1,),), composition), 4)

    def test_homes_of_no_item(self):
        # What comes round already is home, but what has no leads does not come round.
        tour = M + ((0, 0, 0),)
        self.assertEqual([least_home(tour), true_home(tour, 0), true_home(tour, 4)], [(), (), ()])
        self.assertEqual(open_ways(tour, 4), [])
        for tour in (M + ((),), (2, ((0,), (0,)), (), ())):
            self.assertIsNone(true_home(tour, 0))
            self.assertEqual(open_ways(tour, 0), [])
            self.assertNotEqual(least_home(tour), ())
        self.assertEqual([least_home((2, ((),), (), ())), true_home((2, ((),), (), ()), 1)], [(0,), (0,)])
        # Home, but not truly: nothing that is put behind it makes it true.
        for tour in (M + ((1, 1),), (2, ((),), (), (0, 0)), M + ((0,) * 6,)):
            self.assertEqual([least_home(tour), true_home(tour, 4), open_ways(tour, 4)], [(), None, []])

    def test_rounds_between_are_not_true(self):
        # Led on beyond rounds, it comes home again, but rounds come twice.
        tour = (3, ((0,), (0,)), ((),), ())
        self.assertEqual([least_home(tour), true_home(tour, 4)], [(0,), (0,)])
        self.assertEqual(open_ways(tour, 4), [0])
        # Rounds in the middle of the last lead.
        self.check_tour((2, ((0,), ()), (), ()), 4)
        self.check_tour((2, ((0,), (0,), (0,)), ((),), ()), 4)
        self.check_tour((3, ((0,), (0,), (1,)), ((),), (1,)), 4)

    def test_the_first_ones(self):
        # The shorter home comes first, then the one with the lesser items.
        tour = (2, ((),), ((0,), (0,), ()), (1,))
        self.assertEqual([least_home(tour), true_home(tour, 4), open_ways(tour, 4)], [(1,), (1,), [1, 2]])
        self.assertEqual(least_home((2, ((),), ((0,), ()), ())), (0,))
        self.assertEqual(least_home((2, ((0,),), ((), (0,)), ())), (1,))
        self.assertEqual(least_home((2, ((0,),), (), ())), (0, 0))
        # True ones may be longer than the least, and begin in more ways than the first one does.
        tour = (4, ((0,), (0, 2)), ((0,), (1,), (0, 2)), (0,))
        homes, true = self.check_tour(tour, 4)
        self.assertTrue(len(true) > 1 and len(homes) > len(true))

    def test_forty_leads_in_all(self):
        # Three leads bring it home.
        turning = (3, ((0,), (1,)), ())
        for count, home in ((37, (0, 0)), (38, (0,)), (39, ()), (40, None), (36, ())):
            tour = turning + ((0,) * count,)
            self.assertEqual(least_home(tour), home)
            self.assertIsNone(true_home(tour, 4))
        # Two leads bring it home from rounds: from one lead away, one.
        swap = (2, ((0,),), ((),))
        for composition, home in (((1,) * 38 + (0,), (0,)), ((1,) * 39 + (0,), None), ((1,) * 40, ())):
            self.assertEqual(least_home(swap + (composition,)), home)

    def test_true_homes_with_forty_leads_in_all(self):
        method, composition = (6, ((0,),), tuple(all_changes(6)[3:8])), self.long_composition(40)
        tour = method + (composition,)
        self.assertEqual([least_home(tour), true_home(tour, 4), open_ways(tour, 4)], [(), (), []])
        for left in (1, 2, 3):
            begun = method + (composition[:-left],)
            self.check_tour(begun, 4)
            home = true_home(begun, left)
            self.assertIsNotNone(home)
            self.assertEqual(true_home(begun, 4), home)
            self.assertIn(home[0], open_ways(begun, 4))

    def test_true_homes_beyond_forty_leads(self):
        method, composition = (6, ((0,),), tuple(all_changes(6)[3:8])), self.long_composition(42)
        for leads, left in ((40, 2), (39, 3), (38, 4)):
            tour = method + (composition[:leads],)
            # It would come home truly, but for the limit.
            self.assertIsNone(fault_by_hand(rows_by_hand(led_on(tour, composition[leads:]))))
            self.check_tour(tour, 4)
            self.assertTrue(true_home(tour, 4) is None or len(true_home(tour, 4)) < left)
        self.assertIsNone(true_home(method + (composition[:40],), 4))
        self.assertEqual(open_ways(method + (composition[:40],), 4), [])

    def long_composition(self, count):
        """Leads of one change each that ring unlike rows, and come round, found step by step."""
        dice = random.Random(791)
        ways = ((0,),) + tuple(all_changes(6)[3:8])
        while True:
            out, _ = self.walk(dice, ways, (0, 1, 2, 3, 4, 5), count - 4)
            for rest in itertools.product(range(6), repeat=4 if out else 0):
                found = rows_by_hand((6, ((0,),), ways[1:], (out or ()) + rest))
                if len(found) == count + 1 and found[-1] == found[0] and len(set(found)) == count:
                    return out + rest

    def walk(self, dice, ways, row, many):
        out, rows = (), [row]
        for left in range(many, 0, -1):
            near = []
            for way, change in enumerate(ways):
                behind = list(rows[-1])
                for place in change:
                    behind[place], behind[place + 1] = behind[place + 1], behind[place]
                if tuple(behind) not in rows:
                    away = sum(abs(place - bell) for place, bell in enumerate(behind))
                    near.append((away if left < 20 else dice.random(), dice.random(), way, tuple(behind)))
            if not near:
                return None, None
            _, _, way, behind = min(near)
            out += (way,)
            rows.append(behind)
        return out, rows

    def test_greatest_search(self):
        # Six ways of 24 changes; nothing, or much, is open.
        dice = random.Random(792)
        tour = (6, tuple(dice.choice(all_changes(6)) for _ in range(24)), tuple(all_changes(6)[:5]), (0, 1))
        self.assertEqual(open_ways(tour, 0), [])
        self.assertIsInstance(open_ways(tour, 4), list)
        tour = (6, ((0,),), tuple(all_changes(6)[3:8]), (1, 2))
        self.check_tour(tour, 4)

    def test_errors(self):
        tours, many = (BAD_TOURS, InvalidTour), (ODD_INTEGERS + [5, 40, "1", (1,)], InvalidMany)
        tour = (4, ((0, 2), (1,)), ((), (0,)), (0, 2))
        check_errors(self, least_home, (tour,), [tours])
        for function in (true_home, open_ways):
            check_errors(self, function, (tour, 3), [tours, many])
            check_errors(self, function, (tour, 0), [tours, many])
        check_new_list(self, open_ways, M + ((0,),), 4)


if __name__ == "__main__":
    unittest.main()
