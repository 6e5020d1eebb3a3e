"""Promise [74]: lots of bells that tell leads."""

import random
import unittest

from rungonce.errors import InvalidBells, InvalidLead, InvalidLeads, InvalidLot
from rungonce.leads import is_lead
from rungonce.tellers import is_told, least_tellers, parting_lots, second_lead
from samples import (BAD_LEADS, NO_LOTS, ODD_BELLS, ODD_VALUES, all_changes, all_leads, all_lots_by_length,
                     check_errors, check_new_list, outcome, path_by_hand, ring, some_lead)

L = ((0,), (1,))
BAD_BELL_LOTS = NO_LOTS + [(4,), (0, 4), (0, 1, 2, 3, 4)]
TWELVE = ((((0,), (1,)), ((0,), (2,)), ((0,), ()), ((0,), (0,)), ((1,), (1,)), ((1,), (2,)), ((1,), ()), ((1,), (0,)),
           ((2,), (1,)), ((2,), (2,)), ((2,), ()), ((2,), (0,))))
BAD_LEADS_PARTED = ODD_VALUES + [
    (), 0, L, TWELVE + (((), ()),), (L, L), TWELVE[:11] + TWELVE[:1], (L, ((0,),)), (((0,),), L), [L], ([(0,), (1,)],),
    (L, None), (L, ()), ((), ()), (L, ((3,), ())), (L, ((0, 1), ())), (L, ((True,), ())), (((),) * 25,), "L",
    (((0,), [1]),), (L, ((), ()), ((),)), ((L,),),
]


def paths_by_hand(bells, lead, lot):
    return [path_by_hand(bells, lead, bell) for bell in lot]


def least_by_hand(lots):
    """Those of lots that no other one of them is a part of."""
    return sorted(lot for lot in lots if not any(set(other) < set(lot) for other in lots))


def neighbours_are_free(bells, lead, lot):
    """Whether, at some change, two neighbouring places are free."""
    rows = [tuple(range(bells))] + ring(tuple(range(bells)), lead)
    for row, behind, change in zip(rows, rows[1:], lead):
        held = [row[place] in lot or (row[place] != behind[place] and behind[place] in lot) for place in range(bells)]
        if any(not held[place] and not held[place + 1] for place in range(bells - 1)):
            return True
    return False


class Tellers(unittest.TestCase):
    def check_second(self, bells, lead, lot, told):
        self.assertIs(is_told(bells, lead, lot), told)
        second = second_lead(bells, lead, lot)
        if told:
            self.assertIsNone(second)
        else:
            self.assertTrue(is_lead(bells, second) and len(second) == len(lead) and second != lead)
            self.assertEqual(paths_by_hand(bells, second, lot), paths_by_hand(bells, lead, lot))

    def test_examples(self):
        self.assertEqual(
            [is_told(3, L, (0,)), is_told(3, L, (2,)), second_lead(3, L, (2,)), least_tellers(3, L),
             least_tellers(2, ((),)), parting_lots(3, (L, ((), (1,)), ((0,), ())))],
            [True, False, ((), (1,)), [(0,), (1, 2)], [(0,), (1,)], [(0,), (1, 2)]])

    def test_all_leads_of_few_bells_and_changes(self):
        answers = set()
        for bells, many in ((2, 1), (2, 2), (3, 1), (3, 2), (3, 3), (4, 1), (4, 2)):
            leads = all_leads(bells, many)
            lots = all_lots_by_length(bells)
            found = {lead: [path_by_hand(bells, lead, bell) for bell in range(bells)] for lead in leads}
            for lead in leads:
                telling = []
                for lot in lots:
                    alike = [other for other in leads if all(found[other][bell] == found[lead][bell] for bell in lot)]
                    self.check_second(bells, lead, lot, alike == [lead])
                    answers.add(len(alike))
                    if alike == [lead]:
                        telling.append(lot)
                self.assertEqual(least_tellers(bells, lead), least_by_hand(telling))
        self.assertTrue({1, 2, 3, 4, 25, 27} <= answers)

    def test_free_places(self):
        dice = random.Random(74)
        answers = set()
        for _ in range(150):
            bells = dice.randint(2, 6)
            lead = some_lead(dice, bells, 24)
            telling = []
            for lot in all_lots_by_length(bells):
                told = not neighbours_are_free(bells, lead, lot)
                self.check_second(bells, lead, lot, told)
                answers.add(told)
                if told:
                    telling.append(lot)
            self.assertEqual(least_tellers(bells, lead), least_by_hand(telling))
        self.assertEqual(answers, {True, False})

    def test_no_bell_and_all_bells(self):
        for bells in range(2, 7):
            for many in (1, 24):
                for change in all_changes(bells):
                    lead = (change,) * many
                    self.check_second(bells, lead, (), False)
                    self.check_second(bells, lead, tuple(range(bells)), True)
                    # Where the others stand, the last bell stands, too.
                    self.check_second(bells, lead, tuple(range(bells - 1)), True)

    def test_lots_are_in_order(self):
        # The shorter ones do not come first.
        self.assertEqual(least_tellers(3, L), [(0,), (1, 2)])
        dice = random.Random(741)
        mixed = 0
        for _ in range(100):
            lots = least_tellers(5, some_lead(dice, 5, 6))
            self.assertEqual(lots, sorted(lots))
            mixed += [len(lot) for lot in lots] != sorted(len(lot) for lot in lots)
        self.assertGreater(mixed, 0)

    def check_parting(self, bells, leads):
        parting = []
        for lot in all_lots_by_length(bells):
            found = [paths_by_hand(bells, lead, lot) for lead in leads]
            if all(found[first] != found[second] for second in range(len(found)) for first in range(second)):
                parting.append(lot)
        self.assertEqual(parting_lots(bells, leads), least_by_hand(parting))

    def test_parting_lots(self):
        dice = random.Random(742)
        for _ in range(200):
            bells, many = dice.randint(2, 6), dice.choice((1, 2, 3, 24))
            leads = []
            for _ in range(dice.randint(1, 12)):
                lead = [dice.choice(all_changes(bells)) for _ in range(many)]
                if leads and dice.random() < 0.6:
                    lead = list(leads[0])
                    lead[dice.randrange(many)] = dice.choice(all_changes(bells))
                if tuple(lead) not in leads:
                    leads.append(tuple(lead))
            self.check_parting(bells, tuple(leads))

    def test_one_lead_and_twelve(self):
        self.assertEqual(parting_lots(3, (L,)), [()])
        self.assertEqual(parting_lots(6, (((),) * 24,)), [()])
        self.check_parting(4, TWELVE)
        self.check_parting(4, TWELVE[::-1])
        self.check_parting(2, (((),), ((0,),)))
        self.assertEqual(parting_lots(2, (((),), ((0,),))), [(0,), (1,)])

    def test_thirteen_leads_alike_leads_and_unlike_lengths(self):
        for value in BAD_LEADS_PARTED:
            self.assertIs(outcome(parting_lots, 4, value), InvalidLeads, value)
        self.assertIs(outcome(parting_lots, 2, (((1,),),)), InvalidLeads)

    def test_errors(self):
        bells, leads, lots = (ODD_BELLS, InvalidBells), (BAD_LEADS, InvalidLead), (BAD_BELL_LOTS, InvalidLot)
        for function in (is_told, second_lead):
            check_errors(self, function, (4, L, (0, 2)), [bells, leads, lots])
        check_errors(self, least_tellers, (4, L), [bells, leads])
        check_errors(self, parting_lots, (4, (L, ((), ()))), [bells, (BAD_LEADS_PARTED, InvalidLeads)])
        check_new_list(self, least_tellers, 4, L)
        check_new_list(self, parting_lots, 4, TWELVE)


if __name__ == "__main__":
    unittest.main()
