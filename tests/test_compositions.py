"""Promise [42]: methods and compositions."""

import itertools
import random
import unittest

from rungonce.compositions import comes_round, rung_by, twice_rung, ways_by
from rungonce.errors import InvalidBells, InvalidCalls, InvalidComposition, InvalidLead
from samples import (BAD_CALLS, BAD_COMPOSITIONS, BAD_LEADS, ODD_BELLS, all_changes, check_errors, check_new_list, ring,
                     some_lead)

L = ((0,), (1,))


def first_repeat(bells, rows):
    """What makes a composition untrue, found pair by pair."""
    came = [tuple(range(bells))] + rows
    for later in range(len(came)):
        for earlier in range(later):
            if came[earlier] == came[later] and (earlier, later) != (0, len(came) - 1):
                return later - 1, earlier - 1
    return None


class Compositions(unittest.TestCase):
    def test_examples(self):
        self.assertEqual(
            [ways_by(3, ((0,), (1,)), ((), )), rung_by(3, ((0,), (1,)), (), (0, 0, 0))[-1],
             comes_round(3, ((0,), (1,)), (), (0, 0, 0)), twice_rung(3, ((0,), (1,)), (), (0, 0, 0))],
            [(((0,), (1,)), ((0,), ())), (0, 1, 2), True, None])
        self.assertEqual(
            [twice_rung(3, ((0,), (1,)), (), (0, 0, 0, 0)), twice_rung(3, ((0,), (0,)), ((),), (1,)),
             twice_rung(3, ((0,), (0,)), (), (0,)), comes_round(3, ((0,), (1,)), (), ())],
            [(5, -1), (1, 0), None, False])

    def test_ways(self):
        self.assertEqual(ways_by(3, L, ()), (L,))
        self.assertEqual(ways_by(3, L, ((1,), (1,), (), (0,), ())), (L, L, L, ((0,), ()), ((0,), (0,)), ((0,), ())))
        self.assertEqual(ways_by(4, ((0,),), ((0, 2),)), (((0,),), ((0, 2),)))

    def test_rows(self):
        dice = random.Random(42)
        for bells in range(2, 7):
            for _ in range(60):
                lead = some_lead(dice, bells, 4)
                calls = tuple(dice.choice(all_changes(bells)) for _ in range(dice.randint(0, 5)))
                composition = tuple(dice.randint(0, len(calls)) for _ in range(dice.choice((0, 1, 3, 9, 40))))
                self.check_composition(bells, lead, calls, composition)

    def test_all_short_compositions(self):
        for lead in itertools.product(all_changes(3), repeat=2):
            for many in range(5):
                for composition in itertools.product((0, 1), repeat=many):
                    self.check_composition(3, lead, ((),), composition)

    def check_composition(self, bells, lead, calls, composition):
        changes = ()
        for item in composition:
            changes += lead[:-1] + ((lead[-1:] + calls)[item],)
        rows = ring(tuple(range(bells)), changes)
        self.assertEqual(rung_by(bells, lead, calls, composition), rows)
        came_round = comes_round(bells, lead, calls, composition)
        self.assertIs(came_round, bool(rows) and rows[-1] == tuple(range(bells)))
        self.assertEqual(twice_rung(bells, lead, calls, composition), first_repeat(bells, rows))

    def test_no_leads_and_forty(self):
        self.assertEqual(rung_by(3, L, (), ()), [])
        self.assertIsNone(twice_rung(3, L, (), ()))
        self.assertIs(comes_round(2, ((),), (), (0,)), True)
        self.assertIsNone(twice_rung(2, ((),), (), (0,)))
        self.assertEqual(twice_rung(2, ((), ()), (), (0,)), (0, -1))
        self.assertEqual(len(rung_by(6, ((0,),) * 24, ((),), (1,) * 40)), 960)
        self.assertEqual(twice_rung(3, L, (), (0,) * 40), (5, -1))
        check_new_list(self, rung_by, 3, L, (), (0, 0))

    def test_errors(self):
        bells, leads, calls = (ODD_BELLS, InvalidBells), (BAD_LEADS, InvalidLead), (BAD_CALLS, InvalidCalls)
        good = (4, L, ((), (0,)), (0, 2))
        check_errors(self, ways_by, good[:3], [bells, leads, calls])
        for function in (rung_by, comes_round, twice_rung):
            wrong = [value for value in BAD_COMPOSITIONS if value != ()]
            check_errors(self, function, good, [bells, leads, calls, (wrong, InvalidComposition)])
            with self.assertRaises(InvalidComposition):
                function(4, L, (), (1,))


if __name__ == "__main__":
    unittest.main()
