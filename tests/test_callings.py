"""Promise [80]: compositions that are told by the places of one bell, and those that such pairs lead."""

import itertools
import random
import unittest

from rungonce.callings import is_plainly_called, led_by_bell, told_by_bell
from rungonce.errors import InvalidBell, InvalidBells, InvalidCalls, InvalidLead, InvalidPairs, InvalidTour
from samples import (BAD_BELL, BAD_CALLS, BAD_LEADS, BAD_TOURS, HUGE, ODD_BELLS, ODD_VALUES, check_errors,
                     heads_by_hand, outcome, ring, some_method, some_tour, ways_by_hand)

M = (3, ((0,), (1,)), ((),))
N = M + ((0, 1, 1, 0, 0),)
FOUR = (4, ((0, 2), (1,)), ((), (0,)))
# For four bells and two calls.
BAD_PAIRS = ODD_VALUES + [
    0, ((0, 0),), ((0, 3),), ((4, 1),), ((0, -1),), ((-1, 1),), ((0, 1),) * 41, [(0, 1)], ([0, 1],), (0, 1), ((0,),),
    ((0, 1, 1),), ((0, True),), ((False, 1),), ((0, False),), ((0, None),), ((None, 1),), ((0, 1), None),
    ((0, 1), (0, 0)), ("01",), "01", ((0, "1"),), ((0, (1,)),), ((HUGE, 1),), ((0, HUGE),), ((),), (((0, 1),),),
    ((0, 1), ()),
]


def pairs_by_hand(tour, bell):
    bells, lead, calls, composition = tour
    heads = heads_by_hand(bells, ways_by_hand(lead, calls), composition)
    return tuple((heads[index + 1].index(bell), way) for index, way in enumerate(composition) if way)


def led_by_hand(bells, lead, calls, bell, pairs):
    """Word by word, with the pairs that are left."""
    ways = ways_by_hand(lead, calls)
    head, left, out = tuple(range(bells)), list(pairs), []
    for _ in range(40):
        way = 0
        if left:
            place, call = left[0]
            if ring(head, ways[call])[-1].index(bell) == place:
                way = call
                del left[0]
        out.append(way)
        head = ring(head, ways[way])[-1]
        if not left and head == tuple(range(bells)):
            return tuple(out)
    return None


class Callings(unittest.TestCase):
    def check_pairs(self, bells, lead, calls, bell, pairs):
        expected = led_by_hand(bells, lead, calls, bell, pairs)
        self.assertEqual(led_by_bell(bells, lead, calls, bell, pairs), expected)
        return expected

    def check_tour(self, tour, bell):
        bells, lead, calls, composition = tour
        pairs = told_by_bell(tour, bell)
        self.assertIs(type(pairs), tuple)
        self.assertEqual(pairs, pairs_by_hand(tour, bell))
        plainly = self.check_pairs(bells, lead, calls, bell, pairs) == composition
        heads = heads_by_hand(bells, ways_by_hand(lead, calls), composition)
        if plainly:
            self.assertTrue(composition and heads[-1] == heads[0])
        self.assertIs(is_plainly_called(tour, bell), plainly)
        return bool(composition) and heads[-1] == heads[0], plainly

    def test_examples(self):
        self.assertEqual(
            [told_by_bell(N, 2), is_plainly_called(N, 2), led_by_bell(3, ((0,), (1,)), ((),), 2, ((0, 1), (1, 1))),
             led_by_bell(3, ((0,), (1,)), ((),), 2, ((0, 1),))],
            [((0, 1), (1, 1)), True, (0, 1, 1, 0, 0), None])

    def test_all_short_tours(self):
        found = set()
        for method in (M, (2, ((0,),), ((), (0,))), (3, ((0,),), ((1,), ()))):
            for many in range(7 if len(method[2]) == 1 else 6):
                for composition in itertools.product(range(len(method[2]) + 1), repeat=many):
                    for bell in range(method[0]):
                        found.add(self.check_tour(method + (composition,), bell))
        # Among what comes round, some is plainly called, and some is not; nothing else is.
        self.assertEqual(found, {(False, False), (True, False), (True, True)})

    def test_some_tours(self):
        dice = random.Random(80)
        for _ in range(300):
            tour = some_tour(dice, dice.randint(2, 6), 4, dice.choice((0, 1, 3, 8, 40)))
            for bell in range(tour[0]):
                self.check_tour(tour, bell)

    def test_some_pairs(self):
        dice = random.Random(801)
        lengths = set()
        for _ in range(600):
            bells, lead, calls = some_method(dice, dice.randint(2, 5), 3)
            if calls:
                pairs = tuple((dice.randrange(bells), dice.randint(1, len(calls)))
                              for _ in range(dice.choice((0, 1, 2, 3, 5))))
                led = self.check_pairs(bells, lead, calls, dice.randrange(bells), pairs)
                lengths.add(None if led is None else len(led))
        self.assertTrue({None, 1, 2, 3, 4, 5, 6} <= lengths)

    def test_no_pairs(self):
        # The way 0 is rung till it comes round, and once at least.
        self.assertEqual(led_by_bell(3, ((0,), (1,)), (), 0, ()), (0, 0, 0))
        self.assertEqual(led_by_bell(2, ((),), (), 1, ()), (0,))
        self.assertEqual(led_by_bell(6, ((0, 2, 4), (1, 3)), ((),) * 5, 1, ()), (0,) * 6)
        self.assertIs(is_plainly_called(M + ((0, 0, 0),), 1), True)
        self.assertIs(is_plainly_called(M + ((0,) * 6,), 1), False)

    def test_no_leads(self):
        self.assertEqual([told_by_bell(M + ((),), 0), is_plainly_called(M + ((),), 0)], [(), False])

    def test_what_does_not_come_round(self):
        self.assertEqual([told_by_bell(M + ((0,),), 0), is_plainly_called(M + ((0,),), 0)], [(), False])
        self.assertIs(is_plainly_called(M + ((0, 1, 1, 0),), 2), False)

    def test_a_call_that_leads_to_the_place_earlier(self):
        # The second call would lead the bell there at once: it is not left out, as the composition asks.
        tour = (2, ((),), ((),), (0, 1))
        self.assertEqual([told_by_bell(tour, 0), is_plainly_called(tour, 0)], [((0, 1),), False])
        self.assertEqual(led_by_bell(2, ((),), ((),), 0, ((0, 1),)), (1,))

    def test_pairs_that_are_left_behind_forty_leads(self):
        # Each pair is used up by a lead, and forty of them by forty leads.
        for count, led in ((38, (1,) * 38), (39, (1,) * 39 + (0,)), (40, (1,) * 40)):
            pairs = tuple((index % 2, 1) for index in range(1, count + 1))
            self.assertEqual(led_by_bell(2, ((0,),), ((0,),), 0, pairs), led)
            self.check_pairs(2, ((0,),), ((0,),), 0, pairs)
        self.assertEqual(led_by_bell(2, ((),), ((),), 0, ((0, 1),) * 40), (1,) * 40)
        # All used up by just forty leads, at rounds or not; or one of them never used.
        self.assertEqual(led_by_bell(2, ((),), ((), (0,)), 0, ((0, 1),) * 38 + ((1, 2), (0, 2))), (1,) * 38 + (2, 2))
        self.assertIsNone(led_by_bell(2, ((),), ((), (0,)), 0, ((0, 1),) * 39 + ((1, 2),)))
        self.assertIsNone(led_by_bell(2, ((),), ((),), 0, ((1, 1),)))
        self.assertIsNone(led_by_bell(3, ((),), ((), (0,)), 2, ((2, 2), (0, 1))))
        self.check_tour((2, ((),), ((),), (1,) * 40), 0)
        self.check_tour((2, ((),), ((),), (0,) + (1,) * 39), 0)

    def test_only_the_first_pair_that_is_left_is_asked(self):
        # The second pair could be used at once, but the first one never is.
        self.assertIsNone(led_by_bell(2, ((),), ((),), 0, ((1, 1), (0, 1))))
        self.assertEqual(led_by_bell(2, ((),), ((),), 0, ((0, 1), (0, 1))), (1, 1))

    def test_any_value_may_be_asked_for(self):
        for value in BAD_PAIRS:
            self.assertIs(outcome(led_by_bell, *FOUR, 3, value), InvalidPairs, value)
        # Without calls there is no way but 0, so that no pair is one.
        self.assertIs(outcome(led_by_bell, 3, ((0,),), (), 0, ((0, 1),)), InvalidPairs)
        self.assertEqual(led_by_bell(3, ((0,),), (), 0, ()), (0, 0))

    def test_errors(self):
        tours, bells = (BAD_TOURS, InvalidTour), (ODD_BELLS, InvalidBells)
        for function in (told_by_bell, is_plainly_called):
            check_errors(self, function, (FOUR + ((0, 2),), 3), [tours, (BAD_BELL, InvalidBell)])
        check_errors(self, led_by_bell, FOUR + (3, ((0, 1), (3, 2))),
                     [bells, (BAD_LEADS, InvalidLead), (BAD_CALLS, InvalidCalls), (BAD_BELL, InvalidBell),
                      (BAD_PAIRS, InvalidPairs)])


if __name__ == "__main__":
    unittest.main()
