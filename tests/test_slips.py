"""Promise [75]: slips, the rows that are heard, and how few lead to a renaming."""

import random
import unittest

from rungonce.errors import InvalidBells, InvalidLead, InvalidRenaming, InvalidSlips
from rungonce.slips import are_slips, count_fewest, fewest_slips, renaming_by, rows_heard, single_slips
from samples import (BAD_LEADS, BAD_RENAMINGS, HUGE, ODD_BELLS, ODD_VALUES, all_changes, all_rows, all_slips,
                     check_errors, check_new_list, renaming_by_hand, ring, some_lead, some_slips)

L = ((0,), (1,))
# For four bells and two changes.
BAD_SLIPS = ODD_VALUES + [
    0, ((2, 0),), ((0, 3),), ((1, 0), (0, 0)), ((0, 0), (1, 0), (0, 0)), ((0, 0),) * 41, [(0, 0)], ([0, 0],), ((0,),),
    ((0, 0, 0),), (0, 0), ((0, 0), None), ((-1, 0),), ((0, -1),), ((False, 0),), ((0, True),), ((0, None),),
    ((0, "0"),), ("00",), "00", ((HUGE, 0),), ((0, HUGE),), (((0, 0),),), ((0, (0,)),), ((1, 0), (True, 0)),
    ((0, 0), ()),
]


def turned_pairs(row):
    return sum(row[first] > row[second] for second in range(len(row)) for first in range(second))


def heard_by_hand(bells, lead, slips):
    """Each row with the bell that does the work at each place, behind all slips with lesser indices."""
    heard = []
    for index, row in enumerate(ring(tuple(range(bells)), lead), 1):
        renaming = renaming_by_hand(bells, lead, [slip for slip in slips if slip[0] < index])
        heard.append(tuple(renaming[work] for work in row))
    return heard


def fewest_by_hand(bells, lead, most):
    """For each renaming, all slips of at most so many that are as few as can be for it."""
    found = {}
    for many in range(most + 1):
        for slips in all_slips(bells, lead, many):
            renaming = renaming_by_hand(bells, lead, slips)
            if not found.get(renaming) or len(found[renaming][0]) == many:
                found.setdefault(renaming, []).append(slips)
    return found


class Slips(unittest.TestCase):
    def check_fewest(self, bells, lead, renaming):
        """That these are slips that do it, no two of one index where this is asked for; return how many they are."""
        slips, single = fewest_slips(bells, lead, renaming), single_slips(bells, lead, renaming)
        self.assertIs(are_slips(bells, lead, slips), True)
        self.assertEqual(renaming_by_hand(bells, lead, slips), renaming)
        if single is not None:
            self.assertIs(are_slips(bells, lead, single), True)
            self.assertEqual(renaming_by_hand(bells, lead, single), renaming)
            self.assertEqual(len({index for index, _ in single}), len(single))
            self.assertGreaterEqual(len(single), len(slips))
        return len(slips), None if single is None else len(single)

    def test_examples(self):
        self.assertEqual(
            [rows_heard(3, L, ((1, 0),)), renaming_by(3, L, ((0, 0), (0, 1))), fewest_slips(3, L, (2, 1, 0)),
             count_fewest(3, ((),), (2, 1, 0)), single_slips(3, ((),), (2, 1, 0)), are_slips(3, L, ((1, 0), (0, 0)))],
            [[(1, 0, 2), (0, 2, 1)], (1, 2, 0), ((1, 1),), 2, None, False])

    def test_what_is_heard(self):
        dice = random.Random(75)
        for _ in range(300):
            bells = dice.randint(2, 6)
            lead = some_lead(dice, bells, dice.choice((1, 4, 24)))
            slips = some_slips(dice, bells, lead, dice.choice((2, 6, 40)))
            self.assertIs(are_slips(bells, lead, slips), True)
            self.assertEqual(rows_heard(bells, lead, slips), heard_by_hand(bells, lead, slips))
            self.assertEqual(renaming_by(bells, lead, slips), renaming_by_hand(bells, lead, slips))

    def test_no_slips_and_forty(self):
        for bells in range(2, 7):
            lead = ((0,), ()) * 12
            self.assertEqual(rows_heard(bells, lead, ()), ring(tuple(range(bells)), lead))
            self.assertEqual(renaming_by(bells, lead, ()), tuple(range(bells)))
            for count, taken in ((39, True), (40, True), (41, False)):
                slips = ((23, 0),) * count
                self.assertIs(are_slips(bells, lead, slips), taken)
                if taken:
                    self.assertEqual(renaming_by(bells, lead, slips), renaming_by_hand(bells, lead, slips))
        self.assertEqual(renaming_by(3, L, ((1, 0),) * 40), (0, 1, 2))
        self.assertEqual(renaming_by(3, L, ((1, 0),) * 39), (1, 0, 2))

    def test_behind_the_last_row(self):
        self.assertIs(are_slips(3, L, ((1, 1),)), True)
        self.assertIs(are_slips(3, L, ((2, 1),)), False)
        self.assertIs(are_slips(3, ((),), ((0, 1),)), True)
        self.assertIs(are_slips(3, ((),), ((1, 1),)), False)
        self.assertIs(are_slips(3, L, ((1, 2),)), False)

    def test_several_behind_one_row(self):
        self.assertEqual(renaming_by(3, L, ((0, 0), (0, 1))), (1, 2, 0))
        self.assertEqual(renaming_by(3, L, ((0, 1), (0, 0))), (2, 0, 1))
        self.assertEqual(rows_heard(3, L, ((0, 1), (0, 0))), [(0, 2, 1), (0, 1, 2)])
        # Their places may go down, and be the same.
        self.assertIs(are_slips(3, L, ((0, 1), (0, 0), (0, 0), (1, 1), (1, 0))), True)

    def test_a_slip_is_heard_from_the_next_row_on(self):
        self.assertEqual(rows_heard(3, ((), (), ()), ((1, 1),)), [(0, 1, 2), (0, 2, 1), (0, 2, 1)])
        # It is works that are exchanged, where they stand by the lead, whoever does them.
        self.assertEqual(rows_heard(3, ((0,), (0,)), ((0, 0), (1, 1))), [(0, 1, 2), (2, 0, 1)])

    def test_fewest_of_all_slips(self):
        for bells, lead, most in ((2, ((0,), ()), 2), (3, ((),), 3), (3, L, 3), (3, ((0,), (0,)), 3),
                                  (3, ((0,),) * 3, 3),
                                  (3, ((0,), (1,), (0,), (1,)), 3), (4, ((1,),), 6), (4, ((0, 2), (1,)), 5),
                                  (4, ((1,), (0, 2), (1,)), 4)):
            found = fewest_by_hand(bells, lead, most)
            for renaming in all_rows(bells):
                many = self.check_fewest(bells, lead, renaming)[0]
                if renaming in found:
                    self.assertEqual(many, len(found[renaming][0]))
                    self.assertEqual(count_fewest(bells, lead, renaming), len(found[renaming]))
                else:
                    self.assertGreater(many, most)

    def test_fewest_of_longer_leads(self):
        dice = random.Random(751)
        for _ in range(12):
            bells = dice.choice((3, 3, 4, 5))
            lead = some_lead(dice, bells, {3: 8, 4: 4, 5: 3}[bells])
            found = fewest_by_hand(bells, lead, 2)
            for renaming in all_rows(bells):
                many = self.check_fewest(bells, lead, renaming)[0]
                self.assertEqual(many <= 2, renaming in found)
                if renaming in found:
                    self.assertEqual(many, len(found[renaming][0]))
                    self.assertEqual(count_fewest(bells, lead, renaming), len(found[renaming]))

    def test_one_row_alone(self):
        # Behind one row the slips are as many as pairs of bells stand turned.
        for bells in range(2, 7):
            for renaming in all_rows(bells)[::17]:
                self.assertEqual(self.check_fewest(bells, ((),), renaming)[0], turned_pairs(renaming))
        self.assertEqual([count_fewest(bells, ((),), tuple(range(bells))[::-1]) for bells in range(2, 7)],
                         [1, 2, 16, 768, 292864])

    def test_numbers_of_slips_are_even_or_odd_alike(self):
        dice = random.Random(752)
        for _ in range(40):
            bells = dice.randint(2, 6)
            lead = some_lead(dice, bells, 24)
            renaming = dice.choice(all_rows(bells))
            many, single = self.check_fewest(bells, lead, renaming)
            self.assertEqual(many % 2, turned_pairs(renaming) % 2)
            self.assertIn(single, [None] + list(range(many, 25, 2)))

    def test_right_renaming(self):
        for bells in range(2, 7):
            for lead in (((),), ((0,),) * 24):
                rounds = tuple(range(bells))
                self.assertEqual([fewest_slips(bells, lead, rounds), count_fewest(bells, lead, rounds),
                                  single_slips(bells, lead, rounds)], [(), 1, ()])

    def check_single_slips(self, bells, lead):
        """Return the pairs of how many slips, and how many single ones, all renamings ask for."""
        least = {}
        for many in range(len(lead) + 1):
            for slips in all_slips(bells, lead, many):
                if len({index for index, _ in slips}) == many:
                    least.setdefault(renaming_by_hand(bells, lead, slips), many)
        pairs = set()
        for renaming in all_rows(bells):
            pairs.add(self.check_fewest(bells, lead, renaming))
            self.assertEqual(self.check_fewest(bells, lead, renaming)[1], least.get(renaming))
        return pairs

    def test_single_slips_of_all_slips(self):
        dice = random.Random(753)
        pairs = set()
        for _ in range(30):
            bells = dice.choice((2, 3, 3, 4))
            pairs |= self.check_single_slips(bells, tuple(dice.choice(all_changes(bells))
                                                          for _ in range(dice.randint(1, 4))))
        self.assertTrue({(0, 0), (1, 1), (2, 2), (3, 3), (2, None), (3, None)} <= pairs)

    def test_more_single_slips_than_others(self):
        # Two slips behind one row do what takes four, each behind a row of its own.
        for lead in (((0, 2), (0, 2), (1,), (2,)), ((), (2,), (0, 2), (1,))):
            self.assertIn((2, 4), self.check_single_slips(4, lead))

    def test_any_value_may_be_asked_for(self):
        for value in BAD_SLIPS:
            self.assertIs(are_slips(4, L, value), False, value)
        self.assertIs(are_slips(4, L, ()), True)

    def test_errors(self):
        bells, leads = (ODD_BELLS, InvalidBells), (BAD_LEADS, InvalidLead)
        slips, renamings = (BAD_SLIPS, InvalidSlips), (BAD_RENAMINGS, InvalidRenaming)
        check_errors(self, are_slips, (4, L, ((0, 0),)), [bells, leads, None])
        for function in (rows_heard, renaming_by):
            check_errors(self, function, (4, L, ((0, 2), (1, 0))), [bells, leads, slips])
        for function in (fewest_slips, count_fewest, single_slips):
            check_errors(self, function, (4, L, (0, 1, 3, 2)), [bells, leads, renamings])
        check_new_list(self, rows_heard, 4, L, ((0, 0),))


if __name__ == "__main__":
    unittest.main()
