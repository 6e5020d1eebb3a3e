"""Promise [62]: classes that cross, even turnings, and roads from one one-block lot to another one."""

import itertools
import random
import unittest

from rungonce.choices import blocks_of
from rungonce.crossings import crossing_pairs, even_turning, turning_road
from rungonce.errors import InvalidLot, InvalidTable, NotOneBlock, NotPaired
from rungonce.groups import table_of
from rungonce.oneblocks import fewest_turned
from rungonce.turnlots import is_whole_table, lot_blocks, lot_choice, turn_classes
from samples import (BAD_LOTS, BAD_TABLES, NOT_TWO, all_lots_by_length, check_errors, check_new_list, outcome,
                     paired_tables, turning_table)

A = table_of(3, (((0,), (1,)), ((0,),)))
B = table_of(5, (((0,), (1,)), ((3,),)))
C, D = ((1, 3), (2, 0), (3, 1), (0, 2)), ((1, 3), (2, 2), (3, 1), (0, 0))
# Not paired, with three classes, and none of its lots has one block.
UNPAIRED = ((0, 1), (1, 2), (2, 0), (3, 3), (4, 4))


def crossing_by_hand(table, lot):
    """The pairs of classes whose numbers stand in turn round the block."""
    classes = turn_classes(table)
    block = blocks_of(table, lot_choice(table, lot))[0]
    pairs = []
    for first, second in itertools.combinations(range(len(classes)), 2):
        if len(classes[first]) == len(classes[second]) == 2:
            turn = [number in classes[first] for number in block if number in classes[first] + classes[second]]
            if turn[0] != turn[1] and turn[1] != turn[2]:
                pairs.append((first, second))
    return pairs


def differing(classes, lot, other):
    return [index for index in sorted(set(lot) ^ set(other)) if len(classes[index]) == 2]


def is_even(crossing, indices, part):
    return part != () and all(index in indices for index in part) and all(
        len([member for member in part if tuple(sorted((index, member))) in crossing]) % 2 == 0 for index in indices)


class Crossings(unittest.TestCase):
    def check_road(self, table, lot, other):
        classes = turn_classes(table)
        many = len(differing(classes, lot, other))
        road = turning_road(table, lot, other)
        self.assertIsInstance(road, list)
        self.assertEqual(2 * len(road), many)
        for first, second in road:
            self.assertTrue(first < second and len(classes[first]) == len(classes[second]) == 2)
            lot = tuple(sorted(set(lot) ^ {first, second}))
            self.assertEqual(lot_blocks(table, lot), 1)
        self.assertEqual(differing(classes, lot, other), [])

    def test_examples(self):
        self.assertEqual(
            [turn_classes(C), crossing_pairs(C, ()), turn_classes(D), crossing_pairs(D, (1,)), crossing_pairs(A, (0,))],
            [[(0, 2), (1, 3)], [(0, 1)], [(0, 2), (1,), (3,)], [], [(0, 1), (0, 2)]])
        self.assertEqual(
            [even_turning(A, (0,), (1,)), even_turning(A, (0,), (0, 1)), even_turning(C, (), (0, 1)),
             turning_road(A, (0,), (1,))],
            [None, (1,), None, [(0, 1)]])

    def test_crossing_pairs_and_even_turnings(self):
        found = []
        for table in paired_tables(62, 60, 4, 2):
            classes = turn_classes(table)
            lots = all_lots_by_length(len(classes))
            for lot in lots:
                if lot_blocks(table, lot) != 1:
                    for arguments in ((crossing_pairs, table, lot), (even_turning, table, lot, ()),
                                      (turning_road, table, lot, lot)):
                        self.assertIs(outcome(*arguments), NotOneBlock)
                    continue
                crossing = crossing_pairs(table, lot)
                self.assertEqual(crossing, crossing_by_hand(table, lot))
                for other in lots[::3]:
                    indices = differing(classes, lot, other)
                    parts = [tuple(indices[at] for at in chosen) for chosen in all_lots_by_length(len(indices))]
                    even = [part for part in parts if is_even(crossing, indices, part)]
                    turning = even_turning(table, lot, other)
                    self.assertTrue(turning in even if even else turning is None)
                    self.assertEqual(not even, lot_blocks(table, other) == 1)
                    found.append(bool(even))
        self.assertGreater(found.count(True), 100)
        self.assertGreater(found.count(False), 100)

    def test_roads_between_all_one_block_lots(self):
        longest = 0
        for table in paired_tables(621, 60, 5, 1):
            lots = [lot for lot in all_lots_by_length(len(turn_classes(table))) if lot_blocks(table, lot) == 1]
            for lot, other in itertools.product(lots[:6], lots[-6:]):
                self.check_road(table, lot, other)
                longest = max(longest, len(turning_road(table, lot, other)))
                for third in all_lots_by_length(len(turn_classes(table))):
                    if third not in lots:
                        self.assertIs(outcome(turning_road, table, lot, third), NotOneBlock)
        self.assertGreaterEqual(longest, 2)

    def test_great_tables(self):
        dice = random.Random(622)
        table = turning_table(dice, [2] * 300 + [1] * 50)
        while not is_whole_table(table):
            table = turning_table(dice, [2] * 300 + [1] * 50)
        start = fewest_turned(table)
        self.assertEqual(crossing_pairs(table, start), crossing_by_hand(table, start))
        lots = [start]
        for _ in range(40):
            lots.append(tuple(sorted(set(lots[-1]) ^ set(dice.choice(crossing_pairs(table, lots[-1]))))))
        self.check_road(table, start, lots[-1])
        self.assertIsNone(even_turning(table, start, lots[-1]))
        crossing = set(crossing_pairs(table, start))
        for other in ((), tuple(range(350)), tuple(range(0, 350, 2))):
            indices = differing(turn_classes(table), start, other)
            turning = even_turning(table, start, other)
            self.assertEqual(turning is None, lot_blocks(table, other) == 1)
            self.assertTrue(turning is None or is_even(crossing, indices, turning))

    def test_same_lots_and_one_number(self):
        one = ((0, 0),)
        self.assertEqual([crossing_pairs(one, ()), crossing_pairs(one, (0,)), even_turning(one, (), (0,)),
                          turning_road(one, (), (0,)), turning_road(one, (0,), (0,))], [[], [], None, [], []])
        self.assertEqual([even_turning(A, (0,), (0,)), turning_road(A, (0,), (0,))], [None, []])
        # Classes of one number do not make lots differ.
        self.assertEqual([turning_road(D, (), (1, 2)), even_turning(D, (1,), (2,)), even_turning(D, (1,), (0, 2))],
                         [[], None, (0,)])

    def test_errors(self):
        tables, lots = (BAD_TABLES + NOT_TWO, InvalidTable), (BAD_LOTS, InvalidLot)
        not_one = ([(), (0, 1), (0, 1, 2)], NotOneBlock)
        check_errors(self, crossing_pairs, (A, (0,)), [tables, lots])
        check_errors(self, even_turning, (A, (0,), (0, 1)), [tables, lots, lots])
        check_errors(self, turning_road, (A, (0,), (1,)), [tables, lots, lots])
        check_errors(self, turning_road, (A, (0,), (1,)), [None, not_one, not_one])
        for lot in not_one[0]:
            self.assertIs(outcome(crossing_pairs, A, lot), NotOneBlock)
            self.assertIs(outcome(even_turning, A, lot, (0,)), NotOneBlock)
            for bad in BAD_LOTS:
                self.assertIs(outcome(even_turning, A, lot, bad), InvalidLot)
                self.assertIs(outcome(turning_road, A, lot, bad), InvalidLot)
        check_new_list(self, crossing_pairs, A, (0,))
        check_new_list(self, turning_road, A, (0,), (1,))

    def test_not_paired_behind_lots_and_ahead_of_not_one_block(self):
        for table in (UNPAIRED, B):
            self.assertIs(outcome(crossing_pairs, table, (0,)), NotPaired)
            self.assertIs(outcome(even_turning, table, (), (0,)), NotPaired)
            self.assertIs(outcome(turning_road, table, (0,), ()), NotPaired)
            for bad in BAD_LOTS:
                self.assertIs(outcome(crossing_pairs, table, bad), InvalidLot)
                for function in (even_turning, turning_road):
                    self.assertIs(outcome(function, table, bad, ()), InvalidLot)
                    self.assertIs(outcome(function, table, (), bad), InvalidLot)


if __name__ == "__main__":
    unittest.main()
