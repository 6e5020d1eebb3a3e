"""Promise [77]: slips that put a renaming right."""

import random
import unittest

from rungonce.errors import InvalidBells, InvalidLead, InvalidRenaming
from rungonce.putright import notes_for, right_by
from rungonce.slips import are_slips, fewest_slips
from samples import (BAD_LEADS, BAD_RENAMINGS, ODD_BELLS, all_rows, all_slips, check_errors, renaming_by_hand,
                     some_lead)

L = ((0,), (1,))


class PutRight(unittest.TestCase):
    def check_notes(self, bells, lead, renaming):
        """That these put right; return how many they are, and how many by each change."""
        notes, right = notes_for(bells, lead, renaming), right_by(bells, lead, renaming)
        self.assertIs(are_slips(bells, lead, notes), True)
        self.assertEqual(renaming_by_hand(bells, lead, notes, renaming), tuple(range(bells)))
        self.assertEqual([type(right), len(right), right[-1]], [tuple, len(lead), len(notes)])
        # With more rows behind which they may come they are no more.
        self.assertEqual(list(right), sorted(right, reverse=True))
        return len(notes), right

    def test_examples(self):
        self.assertEqual(
            [len(notes_for(3, L, (2, 1, 0))), right_by(3, L, (2, 1, 0)), right_by(3, L, (0, 1, 2)),
             right_by(3, L, (1, 2, 0))],
            [1, (3, 1), (0, 0), (2, 2)])

    def test_all_renamings_against_all_slips(self):
        for bells, lead, most in ((2, ((0,), ()), 2), (3, ((),), 3), (3, L, 3), (3, ((0,), (1,), (0,), (1,)), 3),
                                  (4, ((1,),), 6), (4, ((0, 2), (1,)), 5), (4, ((1,), (0, 2), (1,)), 4)):
            least = {}
            for many in range(most + 1):
                for slips in all_slips(bells, lead, many):
                    # What comes of rounds behind these is what has to come of the renaming.
                    last = slips[-1][0] if slips else 0
                    behind = renaming_by_hand(bells, lead, slips)
                    for index in range(last, len(lead)):
                        least.setdefault((behind, index), many)
            for renaming in all_rows(bells):
                undone = tuple(sorted(range(bells), key=lambda bell: renaming[bell]))
                many, right = self.check_notes(bells, lead, renaming)
                for index, count in enumerate(right):
                    self.assertEqual(count if count <= most else None, least.get((undone, index)))

    def test_word_by_word(self):
        # All slips of at most two, tried on the renaming itself.
        dice = random.Random(77)
        for _ in range(15):
            bells = dice.choice((3, 4))
            lead = some_lead(dice, bells, 4)
            renaming = dice.choice(all_rows(bells))
            many, right = self.check_notes(bells, lead, renaming)
            putting = [slips for count in range(3) for slips in all_slips(bells, lead, count)
                       if renaming_by_hand(bells, lead, slips, renaming) == tuple(range(bells))]
            self.assertEqual(many <= 2, putting != [])
            for index, count in enumerate(right):
                sizes = [len(slips) for slips in putting if all(slip[0] <= index for slip in slips)]
                self.assertEqual(count if count <= 2 else None, min(sizes, default=None))

    def test_greater_leads(self):
        dice = random.Random(771)
        for _ in range(30):
            bells = dice.choice((5, 6))
            lead = some_lead(dice, bells, 24)
            renaming = dice.choice(all_rows(bells))
            undone = tuple(sorted(range(bells), key=lambda bell: renaming[bell]))
            many, right = self.check_notes(bells, lead, renaming)
            for index in range(0, len(lead), 5):
                self.assertEqual(right[index], len(fewest_slips(bells, lead[:index + 1], undone)))
            # Put right is undone, so that the renaming itself may ask for more, or fewer, slips.
            self.assertEqual(many % 2, len(fewest_slips(bells, lead, renaming)) % 2)

    def test_right_already(self):
        for bells in range(2, 7):
            for lead in (((),), ((0,),) * 24):
                self.assertEqual(notes_for(bells, lead, tuple(range(bells))), ())
                self.assertEqual(right_by(bells, lead, tuple(range(bells))), (0,) * len(lead))

    def test_renaming_and_what_undoes_it_are_told_apart(self):
        apart = 0
        for renaming in all_rows(3):
            notes = notes_for(3, L, renaming)
            apart += renaming_by_hand(3, L, notes) != renaming
        self.assertEqual(apart, 2)

    def test_errors(self):
        bells, leads, renamings = (ODD_BELLS, InvalidBells), (BAD_LEADS, InvalidLead), (BAD_RENAMINGS, InvalidRenaming)
        for function in (notes_for, right_by):
            check_errors(self, function, (4, L, (0, 1, 3, 2)), [bells, leads, renamings])


if __name__ == "__main__":
    unittest.main()
