"""Promise [41]: tables, choices and their blocks."""

import itertools
import unittest

from rungonce.choices import blocks_of, is_choice, is_table, next_ones, two_that_meet
from rungonce.errors import InvalidChoice, InvalidTable, NotOne
from rungonce.groups import table_of
from samples import HUGE, ODD_VALUES, check_errors, check_new_list, is_one, outcome, some_tables

T = table_of(3, (((0,),), ((1,),)))
BAD_TABLES = ODD_VALUES + [
    (), 0, ((),), ((0, 0), (1, 1), ()), ((0,), (1, 1)), ((0, 0), (0, 1)), ((0, 1), (1, 1)), ((1,), (2,)), ((0,), (-1,)),
    [(0,)], ([0],), ((0,), [1]), ((False,),), ((0, False),), ((0,), (True,)), ((0,) * 7,), ((HUGE,),), (("0",),),
    (((0,),),), tuple((at,) for at in range(721)), ((0, 1), (1, 2), (2, 3)), "01"]
BAD_CHOICES = ODD_VALUES + [(), 0, (0,) * 5, (0,) * 7, (2,) * 6, (0, 0, 0, 0, 0, -1), [0] * 6, (0, 0, 0, 0, 0, True),
                            (False,) * 6, (0, 0, 0, 0, 0, "1"), ((0, 0, 0, 0, 0, 0),), "000000", (0, 0, 0, 0, 0, HUGE)]


class Choices(unittest.TestCase):
    def test_examples(self):
        self.assertEqual(
            [next_ones(T, (0, 1, 0, 1, 0, 1)), two_that_meet(T, (0, 0, 0, 0, 0, 1)), blocks_of(T, (0,) * 6),
             is_choice(T, (0, 1)), is_table(((0, 0), (1, 1)))],
            [(2, 0, 0, 2, 1, 4), (1, 5), [(0, 2), (1, 4), (3, 5)], False, True])

    def test_is_table(self):
        for value in [T, ((0,),), ((0,) * 6,), tuple((at,) for at in range(720)),
                      tuple((at, 719 - at, (at + 1) % 720, at, at, (7 * at) % 720) for at in range(720))]:
            self.assertIs(is_table(value), True)
        for value in BAD_TABLES:
            self.assertIs(is_table(value), False, value)

    def test_each_index_is_one_to_one(self):
        for table in itertools.product(itertools.product(range(3), repeat=2), repeat=3):
            expected = all(len({item[way] for item in table}) == 3 for way in (0, 1))
            self.assertIs(is_table(table), expected)

    def test_is_choice(self):
        for choice in itertools.product((0, 1), repeat=6):
            self.assertIs(is_choice(T, choice), True)
        for value in BAD_CHOICES:
            self.assertIs(is_choice(T, value), False, value)
        self.assertIs(is_choice(((0,),), (0,)), True)
        self.assertIs(is_choice(((0,),), (1,)), False)
        self.assertIs(is_choice(((0,) * 6,), (5,)), True)

    def test_next_ones_meetings_and_blocks(self):
        for table in some_tables(41, 40, 5, 3):
            for choice in itertools.product(range(len(table[0])), repeat=len(table)):
                self.check_choice(table, choice)

    def check_choice(self, table, choice):
        ends = tuple(item[way] for item, way in zip(table, choice))
        self.assertEqual(next_ones(table, choice), ends)
        pair = two_that_meet(table, choice)
        if is_one(table, choice):
            self.assertIsNone(pair)
            blocks = blocks_of(table, choice)
            self.assertEqual(blocks, sorted(blocks))
            self.assertEqual(sorted(number for block in blocks for number in block), list(range(len(table))))
            for block in blocks:
                self.assertEqual(block[0], min(block))
                self.assertEqual(tuple(ends[number] for number in block), block[1:] + block[:1])
        else:
            self.assertLess(pair[0], pair[1])
            self.assertEqual(ends[pair[0]], ends[pair[1]])
            self.assertIs(outcome(blocks_of, table, choice), NotOne)

    def test_a_choice_is_one_to_one_if_each_number_is_a_next_one(self):
        for choice in itertools.product((0, 1), repeat=6):
            all_come = sorted(next_ones(T, choice)) == list(range(6))
            self.assertEqual(two_that_meet(T, choice) is None, all_come)

    def test_great_tables(self):
        turn = tuple(((at + 1) % 720, at) for at in range(720))
        self.assertEqual(blocks_of(turn, (0,) * 720), [tuple(range(720))])
        self.assertEqual(blocks_of(turn, (1,) * 720), [(at,) for at in range(720)])
        self.assertEqual(two_that_meet(turn, (1,) * 719 + (0,)), (0, 719))
        self.assertEqual(blocks_of(((0,),), (0,)), [(0,)])

    def test_errors(self):
        tables, choices = (BAD_TABLES, InvalidTable), (BAD_CHOICES, InvalidChoice)
        check_errors(self, is_choice, (T, (0,) * 6), [tables, None])
        check_errors(self, next_ones, (T, (0,) * 6), [tables, choices])
        check_errors(self, two_that_meet, (T, (0,) * 6), [tables, choices])
        check_errors(self, blocks_of, (T, (0,) * 6), [tables, choices])
        self.assertIs(outcome(blocks_of, T, (0, 0, 0, 0, 0, 1)), NotOne)
        check_new_list(self, blocks_of, T, (0,) * 6)


if __name__ == "__main__":
    unittest.main()
