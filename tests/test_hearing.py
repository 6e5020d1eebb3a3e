"""Promise [76]: slips and renamings that are told from what is heard."""

import itertools
import random
import unittest

from rungonce.errors import InvalidBells, InvalidHeard, InvalidLead, InvalidRow, InvalidRows
from rungonce.hearing import first_unheard, renamings_for, slips_heard
from rungonce.slips import rows_heard
from samples import (BAD_LEADS, HUGE, ODD_BELLS, ODD_VALUES, all_changes, all_rows, check_errors, check_new_list,
                     outcome, ring, some_lead)

L = ((0,), (1,))
ROW = (0, 1, 2, 3)
# For four bells and two changes.
BAD_ROWS_HEARD = ODD_VALUES + [(), 0, (ROW,), (ROW,) * 3, [ROW, ROW], (ROW, [0, 1, 2, 3]), (ROW, (0, 1, 2)),
                               (ROW, None), ((0, 1, 2), (0, 1, 2)), (ROW, (0, 1, 2, 2)), (ROW, (0, True, 2, 3)), "01",
                               ROW,
                               ((0, 1, 2, 3, 4), ROW), (ROW, (1, 2, 3, 4)), ((), ()), (ROW, "0123")]
BAD_HEARD = ODD_VALUES + [(), 0, (0, 1, 2), (0, 1, 2, 3, None), [0, 1, 2, 3], (0, 0, None, None), (None, 2, 1, 2),
                          (0, 1, 2, 4), (None, None, None, -1), (True, None, None, None), (None, None, False, None),
                          (0, 1, 2, "3"), (0, 1, 2, (3,)), "0123", (None,) * 3, (None,) * 5, (HUGE, None, None, None)]
BAD_ROWS = ODD_VALUES + [(), 0, (0,), (0, 1, 2, 2), (0, 1, True, 3), [0, 1, 2, 3], (1, 2, 3, 4), tuple(range(7))]


def single_slips(bells, lead):
    """All slips of a lead, no two of one index."""
    places = [None] + list(range(bells - 1))
    return [tuple((index, place) for index, place in enumerate(chosen) if place is not None)
            for chosen in itertools.product(places, repeat=len(lead))]


class Hearing(unittest.TestCase):
    def test_examples(self):
        self.assertEqual(
            [slips_heard(3, L, ((1, 0, 2), (0, 2, 1))), slips_heard(3, L, ((2, 1, 0), (1, 2, 0))),
             first_unheard(3, L, ((0, 1, 2), (2, 0, 1))), renamings_for((1, 2, 0), (0, None, None))],
            [((1, 0),), None, 1, [(1, 0, 2), (2, 0, 1)]])

    def test_all_rows_that_can_be_heard(self):
        heard_by = {}
        for bells, lead in ((2, ((0,), (), (0,))), (3, ((),)), (3, L), (3, ((1,), (), (0,))), (4, ((0, 2), (1,)))):
            for slips in single_slips(bells, lead):
                rows = tuple(rows_heard(bells, lead, slips))
                self.assertNotIn((lead, rows), heard_by)
                heard_by[lead, rows] = slips
            for rows in itertools.product(all_rows(bells), repeat=len(lead)):
                self.assertEqual(slips_heard(bells, lead, rows), heard_by.get((lead, rows)))
                explained = max(many for many in range(len(lead) + 1)
                                if any(told == lead and begun[:many] == rows[:many] for told, begun in heard_by))
                self.assertEqual(first_unheard(bells, lead, rows), explained if explained < len(lead) else None)

    def test_slips_are_told_by_what_is_heard(self):
        dice = random.Random(76)
        for _ in range(300):
            bells = dice.randint(2, 6)
            lead = some_lead(dice, bells, 24)
            slips = tuple((index, dice.randrange(bells - 1)) for index in range(len(lead)) if dice.random() < 0.5)
            rows = tuple(rows_heard(bells, lead, slips))
            self.assertEqual(slips_heard(bells, lead, rows), slips)
            self.assertIsNone(first_unheard(bells, lead, rows))

    def test_rows_that_none_can_explain(self):
        dice = random.Random(761)
        for _ in range(200):
            bells = dice.randint(3, 6)
            lead = some_lead(dice, bells, 24)
            slips = tuple((index, dice.randrange(bells - 1)) for index in range(len(lead)) if dice.random() < 0.5)
            rows = rows_heard(bells, lead, slips)
            at = dice.randrange(len(rows))
            # Two bells more exchanged, and the first and the last one besides: no single slip does this.
            rows[at] = rows[at][-1:] + rows[at][1:-1] + rows[at][:1]
            near = [ring(rows[at - 1] if at else tuple(range(bells)), ((change), lead[at]))[-1]
                    for change in all_changes(bells) if len(change) < 2]
            unheard = first_unheard(bells, lead, tuple(rows))
            if rows[at] not in near:
                self.assertEqual(unheard, at)
                self.assertIsNone(slips_heard(bells, lead, tuple(rows)))
            else:
                self.assertTrue(unheard is None or unheard > at)

    def test_two_slips_of_one_index_are_not_heard(self):
        rows = tuple(rows_heard(3, L, ((1, 0), (1, 1))))
        self.assertEqual([slips_heard(3, L, rows), first_unheard(3, L, rows)], [None, 1])
        rows = tuple(rows_heard(4, ((1,), ()), ((0, 0), (0, 2))))
        self.assertEqual([slips_heard(4, ((1,), ()), rows), first_unheard(4, ((1,), ()), rows)], [None, 0])
        # Two that undo each other are heard as none.
        rows = tuple(rows_heard(3, L, ((1, 0), (1, 0))))
        self.assertEqual([slips_heard(3, L, rows), first_unheard(3, L, rows)], [(), None])

    def test_no_slips_and_24(self):
        for bells in range(2, 7):
            lead = ((0,), ()) * 12
            self.assertEqual(slips_heard(bells, lead, tuple(ring(tuple(range(bells)), lead))), ())
            slips = tuple((index, bells - 2) for index in range(24))
            self.assertEqual(slips_heard(bells, lead, tuple(rows_heard(bells, lead, slips))), slips)

    def test_all_renamings_for_what_is_heard(self):
        for bells in (2, 3, 4):
            for row in all_rows(bells)[::3]:
                for heard in itertools.product((None,) + tuple(range(bells)), repeat=bells):
                    told = [bell for bell in heard if bell is not None]
                    if len(set(told)) == len(told):
                        expected = [renaming for renaming in all_rows(bells)
                                    if all(bell is None or renaming[work] == bell for work, bell in zip(row, heard))]
                        self.assertEqual(renamings_for(row, heard), expected)
                    else:
                        self.assertIs(outcome(renamings_for, row, heard), InvalidHeard)

    def test_nothing_heard_and_all_heard(self):
        dice = random.Random(762)
        for bells in range(2, 7):
            row = dice.choice(all_rows(bells))
            self.assertEqual(renamings_for(row, (None,) * bells), all_rows(bells))
            renaming = dice.choice(all_rows(bells))
            self.assertEqual(renamings_for(row, tuple(renaming[work] for work in row)), [renaming])
        self.assertEqual(len(renamings_for((5, 4, 3, 2, 1, 0), (None, None, 3, None, None, None))), 120)

    def test_errors(self):
        bells, leads, rows = (ODD_BELLS, InvalidBells), (BAD_LEADS, InvalidLead), (BAD_ROWS_HEARD, InvalidRows)
        for function in (slips_heard, first_unheard):
            check_errors(self, function, (4, L, (ROW, ROW)), [bells, leads, rows])
        check_errors(self, renamings_for, (ROW, (0, None, 2, 3)), [(BAD_ROWS, InvalidRow), (BAD_HEARD, InvalidHeard)])
        check_new_list(self, renamings_for, ROW, (0, None, None, None))


if __name__ == "__main__":
    unittest.main()
