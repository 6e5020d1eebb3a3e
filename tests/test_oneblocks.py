"""Promise [61]: one-block lots of paired tables, the fewest classes, and trees."""

import random
import unittest

from rungonce.errors import InvalidLot, InvalidTable, NotPaired
from rungonce.groups import table_of
from rungonce.oneblocks import fewest_turned, is_tree_lot, turned_numbers
from rungonce.turnlots import is_whole_table, lot_blocks, turn_classes
from samples import (BAD_LOTS, BAD_TABLES, NOT_TWO, all_lots_by_length, check_errors, check_new_list, outcome,
                     paired_tables, some_tables, turning_table)

A = table_of(3, (((0,), (1,)), ((0,),)))
B = table_of(5, (((0,), (1,)), ((3,),)))


def pairs_in(classes, lot):
    return [index for index in lot if len(classes[index]) == 2]


def is_tree(table, classes, lot):
    """Whether blocks and classes, each beside the blocks in which it has numbers, are one piece without a ring."""
    block_at, blocks = {}, 0
    for number in range(len(table)):
        if number not in block_at:
            while number not in block_at:
                block_at[number] = blocks
                number = table[number][0]
            blocks += 1
    edges = []
    for index in lot:
        met = [block_at[number] for number in classes[index]]
        if len(set(met)) < len(met):
            return False
        edges += [(("class", index), ("block", block)) for block in met]
    nodes = [("block", block) for block in range(blocks)] + [("class", index) for index in lot]
    reached = nodes[:1]
    for node in reached:
        reached += sorted({other for edge in edges if node in edge for other in edge if other not in reached})
    return len(reached) == len(nodes) and len(edges) == len(nodes) - 1


class OneBlocks(unittest.TestCase):
    def test_examples(self):
        self.assertEqual(
            [turned_numbers(A), len(fewest_turned(A)), is_tree_lot(A, (2,)), is_tree_lot(A, (0, 1)),
             is_tree_lot(B, (0,))],
            [[1], 1, True, False, False])

    def test_numbers_and_fewest_of_paired_tables(self):
        kinds = []
        for table in paired_tables(61, 120, 5, 2):
            classes = turn_classes(table)
            ones = [lot for lot in all_lots_by_length(len(classes)) if lot_blocks(table, lot) == 1]
            self.assertEqual(turned_numbers(table), sorted({len(pairs_in(classes, lot)) for lot in ones}))
            if ones:
                self.assertIn(fewest_turned(table), ones)
                self.assertEqual(len(fewest_turned(table)), min(len(lot) for lot in ones))
            else:
                self.assertIsNone(fewest_turned(table))
            self.assertEqual(bool(ones), is_whole_table(table))
            kinds.append(min(len(turned_numbers(table)), 2))
        self.assertEqual(set(kinds), {0, 1, 2})

    def test_tree_lots(self):
        trees = 0
        for table in some_tables(611, 80, 8, 2, 2) + paired_tables(612, 80, 4, 2):
            classes = turn_classes(table)
            for lot in all_lots_by_length(len(classes)):
                tree = is_tree(table, classes, lot)
                self.assertIs(is_tree_lot(table, lot), tree)
                if tree:
                    self.assertEqual(lot_blocks(table, lot), 1)
                    trees += 1
        self.assertGreater(trees, 50)

    def test_trees_of_greater_classes(self):
        # Three blocks of one number each; the class of all of them joins them.
        joined = ((0, 1), (1, 2), (2, 0))
        self.assertEqual([is_tree_lot(joined, (0,)), is_tree_lot(joined, ()), lot_blocks(joined, (0,))],
                         [True, False, 1])
        turning = tuple((at, (at + 1) % 720) for at in range(720))
        self.assertIs(is_tree_lot(turning, (0,)), True)
        # Two classes of two numbers each that join the same two blocks close a ring.
        ring = ((1, 2), (0, 3), (3, 0), (2, 1))
        self.assertEqual([turn_classes(ring), is_tree_lot(ring, (0,)), is_tree_lot(ring, (0, 1))],
                         [[(0, 3), (1, 2)], True, False])

    def test_one_number(self):
        one = ((0, 0),)
        self.assertEqual([turned_numbers(one), fewest_turned(one), is_tree_lot(one, ()), is_tree_lot(one, (0,))],
                         [[0], (), True, True])
        two = ((0, 0), (1, 1))
        self.assertEqual([turned_numbers(two), fewest_turned(two), is_tree_lot(two, ()), is_tree_lot(two, (0, 1))],
                         [[], None, False, False])

    def test_greatest_tables(self):
        dice = random.Random(613)
        for _ in range(10):
            table = turning_table(dice, [2] * 360)
            full = tuple(range(360))
            if not is_whole_table(table):
                self.assertEqual([turned_numbers(table), fewest_turned(table)], [[], None])
                continue
            lot = fewest_turned(table)
            self.assertEqual([lot_blocks(table, lot), len(lot), is_tree_lot(table, lot)],
                             [1, lot_blocks(table, ()) - 1, True])
            numbers = turned_numbers(table)
            self.assertEqual(numbers, list(range(len(lot), 362 - lot_blocks(table, full), 2)))

    def test_errors(self):
        tables, lots = (BAD_TABLES + NOT_TWO, InvalidTable), (BAD_LOTS, InvalidLot)
        for function in (turned_numbers, fewest_turned):
            check_errors(self, function, (A,), [tables])
            self.assertIs(outcome(function, B), NotPaired)
            # Of three numbers in one class, the table being whole or not.
            self.assertIs(outcome(function, ((0, 1), (1, 2), (2, 0), (3, 3))), NotPaired)
        check_errors(self, is_tree_lot, (A, (0, 2)), [tables, lots])
        check_new_list(self, turned_numbers, A)


if __name__ == "__main__":
    unittest.main()
