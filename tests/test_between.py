"""Promise [53]: what lies between two one to one choices."""

import itertools
import unittest

from rungonce.between import are_between, rings_between, turned_ring
from rungonce.errors import InvalidChoice, InvalidIndex, InvalidTable, NotOne
from rungonce.groups import table_of
from samples import (BAD_CHOICES, BAD_TABLES, ODD_INTEGERS, ODD_VALUES, all_choices, check_errors, check_new_list,
                     is_one, ones_of, outcome, some_tables, written)

T = table_of(3, (((0,),), ((1,),)))
FIRST, SECOND = (0,) * 6, (1,) * 6
NOT_ONE = [(0, 0, 0, 0, 0, 1), (1, 0, 0, 0, 0, 0)]


def rings_by_hand(table, choice, beside):
    unlike = [number for number in range(len(table)) if choice[number] != beside[number]]
    return list(written({number: other for number in unlike for other in unlike
                         if table[number][choice[number]] == table[other][beside[other]]}))


class Between(unittest.TestCase):
    def test_examples(self):
        self.assertEqual(
            [rings_between(T, FIRST, SECOND), turned_ring(T, FIRST, SECOND, 1),
             are_between(T, FIRST, SECOND, (1, 0, 0, 1, 1, 0))],
            [[(0, 3, 4), (1, 5, 2)], (0, 1, 1, 0, 0, 1), True])

    def test_all_pairs_of_choices(self):
        for table in some_tables(53, 60, 5, 3):
            ones = ones_of(table)
            for choice, beside in itertools.islice(itertools.product(ones, ones), 0, None, 3):
                rings = rings_between(table, choice, beside)
                self.assertEqual(rings, rings_by_hand(table, choice, beside))
                for index, ring in enumerate(rings):
                    turned = turned_ring(table, choice, beside, index)
                    self.assertEqual(turned, tuple(beside[number] if number in ring else choice[number]
                                                   for number in range(len(table))))
                    self.assertIn(turned, ones)
                self.assertIs(outcome(turned_ring, table, choice, beside, len(rings)), InvalidIndex)

    def test_what_is_between(self):
        for table in some_tables(531, 30, 4, 3):
            ones = ones_of(table)
            for choice, beside in itertools.product(ones, ones):
                rings = rings_between(table, choice, beside)
                for value in all_choices(table):
                    expected = value in ones and all(way in pair for way, pair in zip(value, zip(choice, beside)))
                    self.assertIs(are_between(table, choice, beside, value), expected)
                    # One to one just if throughout each ring it is that of one of both.
                    if all(way in pair for way, pair in zip(value, zip(choice, beside))):
                        kept = all(len({value[number] == choice[number] for number in ring}) == 1 for ring in rings)
                        self.assertEqual(is_one(table, value), kept)

    def test_no_rings_and_rings_of_one(self):
        self.assertEqual(rings_between(T, FIRST, FIRST), [])
        self.assertIs(outcome(turned_ring, T, FIRST, FIRST, 0), InvalidIndex)
        self.assertEqual(rings_between(((0, 0), (1, 1)), (0, 0), (0, 1)), [(1,)])
        self.assertEqual(turned_ring(((0, 0), (1, 1)), (0, 0), (1, 1), 1), (0, 1))
        turn = tuple(((at + 7) % 720, at) for at in range(720))
        self.assertEqual(rings_between(turn, (0,) * 720, (1,) * 720), [tuple(at * 7 % 720 for at in range(720))])
        self.assertEqual(turned_ring(turn, (0,) * 720, (1,) * 720, 0), (1,) * 720)

    def test_any_value_may_be_asked_for(self):
        for value in ODD_VALUES + [(), (0,) * 5, [0] * 6, (False,) * 6, (0, 0, 0, 0, 0, 2)] + NOT_ONE:
            self.assertIs(are_between(T, FIRST, SECOND, value), False)
        self.assertIs(are_between(T, FIRST, FIRST, SECOND), False)
        self.assertIs(are_between(T, FIRST, FIRST, FIRST), True)

    def test_errors(self):
        tables, choices, not_one = (BAD_TABLES, InvalidTable), (BAD_CHOICES, InvalidChoice), (NOT_ONE, NotOne)
        for first, second in itertools.product((choices, not_one), repeat=2):
            faults = [tables, first, second]
            check_errors(self, rings_between, (T, FIRST, SECOND), faults)
            check_errors(self, are_between, (T, FIRST, SECOND, FIRST), faults + [None])
            check_errors(self, turned_ring, (T, FIRST, SECOND, 1), faults + [(ODD_INTEGERS + [2], InvalidIndex)])
        check_new_list(self, rings_between, T, FIRST, SECOND)


if __name__ == "__main__":
    unittest.main()
