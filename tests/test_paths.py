"""Promise [73]: paths of bells, and the leads that have them."""

import itertools
import random
import unittest

from rungonce.errors import InvalidBell, InvalidBells, InvalidLead, InvalidMany, InvalidPaths
from rungonce.paths import are_paths, count_leads, lead_with, path_of
from samples import (BAD_BELL, BAD_LEADS, BAD_MANY, HUGE, ODD_BELLS, ODD_VALUES, all_leads, check_errors, outcome,
                     path_by_hand, some_lead)

L = ((0,), (1,))
# For four bells and two changes.
GOOD_PATHS = ((0, (0, 1, 2)), (2, (2, 2, 3)))
BAD_PATHS = ODD_VALUES + [
    0, ((0, (0, 1)),), ((0, (0, 1, 2, 3)),), ((0, (1, 1, 2)),), ((0, (0, 1, 4)),), ((0, (0, -1, 0)),),
    ((4, (4, 3, 3)),),
    ((2, (2, 2, 3)), (0, (0, 1, 2))), ((0, (0, 1, 2)), (0, (0, 1, 2))), ((0, (0, 1, 2)), (0, (0, 2, 2))),
    [(0, (0, 1, 2))], ([0, (0, 1, 2)],), ((0, [0, 1, 2]),), ((0,),), ((0, (0, 1, 2), ()),), ((0, ()),), (0, (0, 1, 2)),
    ((False, (0, 1, 2)),), ((0, (False, 1, 2)),), ((0, (0, True, 2)),), ((0, (0, 1, None)),), ((0, "012"),), "01",
    ((0, (0, 1, 2)), None), ((0, (0, 1, 2)), (1, (1, 1))), ((HUGE, (HUGE, 1, 2)),), ((0, (0, 1, HUGE)),), ((),),
    ((-1, (-1, 0, 0)),), ((0, ((0,), 1, 2)),), ((None, (0, 1, 2)),),
]


def having(leads, bells, paths):
    return [lead for lead in leads if all(path_by_hand(bells, lead, bell) == path for bell, path in paths)]


class Paths(unittest.TestCase):
    def check_paths(self, bells, many, paths, leads):
        """The leads that have the paths are these."""
        self.assertIs(are_paths(bells, many, paths), True)
        self.assertEqual(count_leads(bells, many, paths), len(leads))
        lead = lead_with(bells, many, paths)
        if leads:
            self.assertIn(lead, leads)
        else:
            self.assertIsNone(lead)

    def test_examples(self):
        self.assertEqual(
            [path_of(3, L, 0), are_paths(3, 2, ((0, (0, 2, 2)),)), are_paths(3, 2, ((0, (1, 1, 1)),)),
             count_leads(3, 2, ((0, (0, 1, 2)),)), count_leads(3, 2, ((2, (2, 2, 1)),))],
            [(0, 1, 2), True, False, 1, 2])
        self.assertEqual(
            [count_leads(6, 2, ()), lead_with(3, 2, ((0, (0, 1, 2)),)), lead_with(3, 2, ((0, (0, 2, 2)),)),
             count_leads(3, 1, ((0, (0, 1)), (1, (1, 1))))],
            [169, ((0,), (1,)), None, 0])

    def test_paths_of_leads(self):
        dice = random.Random(73)
        for _ in range(200):
            bells = dice.randint(2, 6)
            lead = some_lead(dice, bells, 24)
            for bell in range(bells):
                self.assertEqual(path_of(bells, lead, bell), path_by_hand(bells, lead, bell))

    def test_all_paths_of_few_bells_and_changes(self):
        for bells, many in ((2, 1), (2, 2), (2, 3), (3, 1), (3, 2)):
            leads = all_leads(bells, many)
            for told in itertools.product((False, True), repeat=bells):
                places = [list(itertools.product(range(bells), repeat=many)) for bell in range(bells) if told[bell]]
                for rest in itertools.product(*places):
                    bells_told = [bell for bell in range(bells) if told[bell]]
                    paths = tuple((bell, (bell,) + path) for bell, path in zip(bells_told, rest))
                    self.check_paths(bells, many, paths, having(leads, bells, paths))

    def test_some_paths_of_more_bells(self):
        dice = random.Random(731)
        none = 0
        for bells, many in ((4, 2), (4, 3), (5, 2), (6, 1), (6, 2)):
            leads = all_leads(bells, many)
            for _ in range(40):
                lead = dice.choice(leads)
                paths = [(bell, path_by_hand(bells, lead, bell)) for bell in range(bells) if dice.random() < 0.5]
                if paths and dice.random() < 0.4:
                    bell, path = paths[-1]
                    paths[-1] = (bell, path[:-1] + (dice.randrange(bells),))
                found = having(leads, bells, paths)
                self.check_paths(bells, many, tuple(paths), found)
                none += not found
        self.assertGreater(none, 10)

    def test_no_bell_and_all_bells(self):
        dice = random.Random(732)
        for bells in range(2, 7):
            changes = count_leads(bells, 1, ())
            self.assertEqual(changes, {2: 2, 3: 3, 4: 5, 5: 8, 6: 13}[bells])
            for many in (1, 2, 24):
                self.assertEqual(count_leads(bells, many, ()), changes ** many)
                self.assertEqual(len(lead_with(bells, many, ())), many)
                lead = some_lead(dice, bells, 24)
                paths = tuple((bell, path_by_hand(bells, lead, bell)) for bell in range(bells))
                self.check_paths(bells, len(lead), paths, [lead])

    def test_paths_that_no_lead_has(self):
        # Two places away, two bells at one place, a bell that moves to where another one stays.
        self.check_paths(4, 1, ((0, (0, 2)),), [])
        self.check_paths(4, 2, ((0, (0, 1, 1)), (2, (2, 1, 2))), [])
        self.check_paths(4, 2, ((0, (0, 0, 0)), (1, (1, 1, 0))), [])
        self.check_paths(4, 3, ((3, (3, 3, 3, 1)),), [])
        self.check_paths(6, 24, tuple((bell, (bell,) + (5,) * 24) for bell in range(6)), [])
        self.check_paths(3, 2, ((0, (0, 1, 2)), (1, (1, 0, 0)), (2, (2, 2, 2))), [])

    def test_24_changes(self):
        # Bell 0 of six leads at each change: the others have eight changes each time.
        self.assertEqual(count_leads(6, 24, ((0, (0,) * 25),)), 8 ** 24)
        self.assertEqual(path_of(6, lead_with(6, 24, ((0, (0,) * 25),)), 0), (0,) * 25)
        self.assertIs(are_paths(6, 24, ((0, (0,) * 25),)), True)
        self.assertIs(are_paths(6, 24, ((0, (0,) * 24),)), False)

    def test_any_value_may_be_asked_for(self):
        self.assertIs(are_paths(4, 2, GOOD_PATHS), True)
        self.assertIs(are_paths(4, 2, ()), True)
        for value in BAD_PATHS:
            self.assertIs(are_paths(4, 2, value), False, value)

    def test_errors(self):
        bells, many, paths = (ODD_BELLS, InvalidBells), (BAD_MANY, InvalidMany), (BAD_PATHS, InvalidPaths)
        leads, bell = (BAD_LEADS, InvalidLead), (BAD_BELL, InvalidBell)
        check_errors(self, path_of, (4, L, 3), [bells, leads, bell])
        check_errors(self, are_paths, (4, 2, GOOD_PATHS), [bells, many, None])
        for function in (count_leads, lead_with):
            check_errors(self, function, (4, 2, GOOD_PATHS), [bells, many, paths])
        self.assertIs(outcome(count_leads, 4, 24, GOOD_PATHS), InvalidPaths)
        self.assertIs(outcome(path_of, 2, ((0,),), 2), InvalidBell)


if __name__ == "__main__":
    unittest.main()
