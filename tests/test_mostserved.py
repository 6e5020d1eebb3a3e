"""Promise [67]: the most numbers of a lot that can be served, price papers, and parts with too few ends."""

import random
import unittest

from rungonce.errors import InvalidLot, InvalidTable
from rungonce.groups import table_of
from rungonce.lots import does_serve, is_lot
from rungonce.mostserved import is_price_paper, most_served, price_paper, too_few
from samples import (BAD_NUMBER_LOTS, BAD_TABLES, ODD_VALUES, all_lots_by_length, check_errors, check_limit, outcome,
                     some_table, some_tables)

T = table_of(3, (((0,),), ((1,),)))
BIG = 10 ** 100


def can_serve(table, part, left, ends):
    """Whether the numbers that are left can be led to the ends that are left, one by one."""
    if not left:
        return True
    return any(end in ends and can_serve(table, part, left[1:], ends - {end}) for end in set(table[left[0]]))


def most_by_hand(table, lot):
    for many in range(len(lot), -1, -1):
        for part in all_lots_by_length(len(lot)):
            numbers = [lot[at] for at in part]
            if len(part) == many and can_serve(table, numbers, numbers, set(numbers)):
                return many


def has_few(table, lot, part):
    return len({end for number in part for end in table[number]} & set(lot)) < len(part)


def is_paper(table, lot, going, coming):
    """Word by word."""
    for number, price in zip(lot, going):
        for other, worth in zip(lot, coming):
            if other in table[number] and price + worth < 1:
                return False
            if other == number and price + worth < 0:
                return False
    return True


class MostServed(unittest.TestCase):
    def check_lot(self, table, lot):
        """That what is returned is right, and that nothing better could be; return how many are served."""
        found = most_served(table, lot)
        self.assertIs(type(found), tuple)
        part, choice = found
        self.assertTrue(is_lot(table, part) and set(part) <= set(lot))
        self.assertTrue(does_serve(table, part, choice))
        paper = price_paper(table, lot)
        self.assertIs(type(paper), tuple)
        going, coming = paper
        self.assertEqual([type(going), type(coming), len(going), len(coming)], [tuple, tuple, len(lot), len(lot)])
        self.assertTrue(all(type(price) is int and -1000 <= price <= 1000 for price in going + coming))
        self.assertTrue(is_paper(table, lot, going, coming))
        self.assertIs(is_price_paper(table, lot, paper), True)
        # No paper has a lesser sum than numbers that are served, so that both are the best ones.
        self.assertEqual(sum(going + coming), len(part))
        few = too_few(table, lot)
        self.assertEqual(few is None, len(part) == len(lot))
        if few is not None:
            self.assertTrue(is_lot(table, few) and set(few) <= set(lot) and has_few(table, lot, few))
        return len(part)

    def test_examples(self):
        self.assertEqual(
            [len(most_served(T, (0, 2, 3))[0]), is_price_paper(T, (0, 1), ((1, 1), (0, 0))),
             is_price_paper(T, (0, 1), ((0, 0), (0, 0))), too_few(T, (0, 2, 3)), too_few(T, (0, 2))],
            [2, True, False, (0, 3), None])

    def test_all_lots_of_small_tables(self):
        missing = set()
        for table in some_tables(67, 60, 6, 3):
            for lot in all_lots_by_length(len(table)):
                most = self.check_lot(table, lot)
                self.assertEqual(most, most_by_hand(table, lot))
                missing.add(len(lot) - most)
        self.assertTrue({0, 1, 2, 3} <= missing)

    def test_too_few_ends(self):
        for table in some_tables(671, 30, 6, 3):
            for lot in all_lots_by_length(len(table)):
                parts = [tuple(lot[at] for at in part) for part in all_lots_by_length(len(lot))]
                self.assertEqual(too_few(table, lot) is None, not any(has_few(table, lot, part) for part in parts))

    def test_papers(self):
        dice = random.Random(672)
        answers = []
        for table in some_tables(673, 60, 5, 3):
            for lot in all_lots_by_length(len(table)):
                most = len(most_served(table, lot)[0])
                for _ in range(6):
                    going, coming = [tuple(dice.choice((-1, 0, 0, 1, 1, 2)) for _ in lot) for _ in (0, 1)]
                    answers.append(is_paper(table, lot, going, coming))
                    self.assertIs(is_price_paper(table, lot, (going, coming)), answers[-1])
                    if answers[-1]:
                        self.assertGreaterEqual(sum(going + coming), most)
        self.assertEqual(set(answers), {True, False})

    def test_sums_just_at_and_just_below(self):
        # Within the lot 0 goes to 1 alone, and 1 to 0.
        self.assertIs(is_price_paper(T, (0, 1), ((0, 0), (1, 1))), True)
        self.assertIs(is_price_paper(T, (0, 1), ((0, 0), (1, 0))), False)
        self.assertIs(is_price_paper(T, (0, 1), ((0, 0), (0, 1))), False)
        self.assertIs(is_price_paper(T, (0, 1), ((1, 0), (1, 0))), True)
        self.assertIs(is_price_paper(T, (0, 1), ((2, 1), (0, -1))), True)
        self.assertIs(is_price_paper(T, (0, 1), ((2, 1), (0, -2))), False)
        self.assertIs(is_price_paper(T, (0, 1), ((2, 0), (1, -1))), False)
        # Where no way leads within the lot, each number still has its own sum.
        self.assertIs(is_price_paper(T, (0, 3), ((0, 0), (0, 0))), True)
        self.assertIs(is_price_paper(T, (0, 3), ((-5, 7), (5, -7))), True)
        self.assertIs(is_price_paper(T, (0, 3), ((-5, 7), (4, -7))), False)
        self.assertIs(is_price_paper(T, (0, 3), ((-5, 7), (5, -8))), False)
        # What goes to itself by a way asks for 1.
        self.assertIs(is_price_paper(((0,),), (0,), ((0,), (0,))), False)
        self.assertIs(is_price_paper(((0,),), (0,), ((0,), (1,))), True)

    def test_papers_with_great_integers(self):
        for great in (1001, 10 ** 6, BIG):
            self.assertIs(is_price_paper(T, (0, 1), ((great, great), (-great + 1, -great + 1))), True)
            self.assertIs(is_price_paper(T, (0, 1), ((great, great), (-great + 1, -great))), False)
            self.assertIs(is_price_paper(T, (0, 1), ((-great, -great), (great + 1, great + 1))), True)
            self.assertIs(is_price_paper(T, (0, 1), ((-great, -great), (great, great))), False)
            self.assertIs(is_price_paper(T, (0, 3), ((great, -great), (-great, great))), True)
            self.assertIs(is_price_paper(T, (0, 3), ((great, -great), (-great - 1, great))), False)

    def test_no_numbers(self):
        self.assertEqual([most_served(T, ()), price_paper(T, ()), too_few(T, ())], [((), ()), ((), ()), None])
        self.assertIs(is_price_paper(T, (), ((), ())), True)
        self.assertIs(is_price_paper(T, (), ((0,), (0,))), False)

    def test_ways_that_lead_a_number_to_itself(self):
        table = ((0, 1), (1, 0), (2, 2))
        self.assertEqual(most_served(table, (0,)), ((0,), (0,)))
        self.assertEqual(most_served(table, (2,))[0], (2,))
        self.assertEqual(self.check_lot(table, (0, 1, 2)), 3)

    def test_great_lots(self):
        dice = random.Random(674)
        found = set()
        for _ in range(60):
            count = dice.choice((60, 61, 70, 90, 150, 720))
            table = some_table(dice, count, dice.randint(1, 6))
            lot = tuple(sorted(dice.sample(range(count), 60)))
            found.add(self.check_lot(table, lot))
        self.assertTrue({0, 60} < found)

    def test_long_roads(self):
        lot = tuple(range(60))
        # All sixty in one ring; not closed; closed by one step back, so that an odd number is left out.
        self.assertEqual(self.check_lot(tuple(((at + 1) % 60,) for at in range(60)), lot), 60)
        self.assertEqual(self.check_lot(tuple(((at + 1) % 61,) for at in range(61)), lot), 0)
        self.assertEqual(self.check_lot(tuple(((at + 1) % 61, (at - 1) % 61) for at in range(61)), lot[:59]), 58)
        self.assertEqual(self.check_lot(tuple(((at + 2) % 63, (at - 5) % 63) for at in range(63)), lot), 56)

    def test_limit(self):
        for count in (60, 61, 720):
            table = tuple(((at + 1) % count, at) for at in range(count))
            lot = tuple(range(60))
            self.assertEqual(len(most_served(table, lot)[0]), 60)
            self.assertIs(is_price_paper(table, lot, ((1,) * 60, (0,) * 60)), True)
            self.assertEqual(sum(sum(prices) for prices in price_paper(table, lot)), 60)
            self.assertIsNone(too_few(table, lot))
        for many in (61, 62, 720):
            lot = tuple(range(many))
            for function in (most_served, price_paper, too_few):
                check_limit(self, 60, function, table, lot)
            check_limit(self, 60, is_price_paper, table, lot, ((1,) * many, (0,) * many))
            check_limit(self, 60, is_price_paper, table, lot, None)

    def test_limit_comes_last(self):
        table = tuple(((at + 1) % 100,) for at in range(100))
        for lot in (tuple(range(101)), tuple(range(61, 0, -1)), (0,) * 61, list(range(61)), tuple(range(60)) + (True,)):
            for function in (most_served, price_paper, too_few):
                self.assertIs(outcome(function, table, lot), InvalidLot)
            self.assertIs(outcome(is_price_paper, table, lot, None), InvalidLot)

    def test_what_is_no_price_paper(self):
        for value in ODD_VALUES + [(), 0, ((1, 1),), ((1, 1), (0, 0), (0, 0)), [(1, 1), (0, 0)], ([1, 1], (0, 0)),
                                   ((1, 1), [0, 0]), ((1, 1), (0,)), ((1,), (0, 0)), ((1, 1, 1), (0, 0)),
                                   ((1, 1), (0, 0, 0)), ((True, 1), (0, 0)), ((1, 1), (False, 0)), ((1, 1), (0, None)),
                                   ((1, "1"), (0, 0)), ("11", "00"), ((1, (1,)), (0, 0)), (1, 1), None, ((), ())]:
            self.assertIs(is_price_paper(T, (0, 1), value), False)

    def test_errors(self):
        tables, lots = (BAD_TABLES, InvalidTable), (BAD_NUMBER_LOTS, InvalidLot)
        for function in (most_served, price_paper, too_few):
            check_errors(self, function, (T, (0, 2, 3)), [tables, lots])
        check_errors(self, is_price_paper, (T, (0, 1), ((1, 1), (0, 0))), [tables, lots, None])


if __name__ == "__main__":
    unittest.main()
