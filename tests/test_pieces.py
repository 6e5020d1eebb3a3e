"""Promise [49]: pieces of tables."""

import itertools
import unittest

from rungonce.errors import InvalidNumber, InvalidTable, TooMany
from rungonce.groups import table_of
from rungonce.pieces import beside_of, count_one, holding_ways, piece_ends, pieces_of
from samples import BAD_TABLES, ODD_INTEGERS, ODD_VALUES, check_errors, check_new_list, is_one, outcome, some_tables

T = table_of(3, (((0,),), ((1,),)))
U = ((1, 1, 0), (0, 0, 2), (2, 3, 1), (3, 2, 3))


def pieces_by_hand(table):
    left, pieces = list(range(len(table))), []
    while left:
        piece = [left[0]]
        for number in piece:
            piece += [other for other in left if other not in piece and set(table[number]) & set(table[other])]
        left = [number for number in left if number not in piece]
        pieces.append(tuple(sorted(piece)))
    return sorted(pieces)


def holds(table, ways):
    return pieces_by_hand([tuple(item[way] for way in ways) for item in table]) == pieces_by_hand(table)


def turned(count, steps):
    return tuple(tuple((at + step) % count for step in steps) for at in range(count))


class Pieces(unittest.TestCase):
    def test_examples(self):
        self.assertEqual(
            [pieces_of(U), piece_ends(U, 3), beside_of(U, 0), holding_ways(U), count_one(U), count_one(T)],
            [[(0, 1, 2, 3)], (0, 1, 2, 3), [1, 2], [(1, 2)], 14, 4])

    def test_pieces_ends_and_numbers_beside(self):
        for table in some_tables(49, 150, 12, 4):
            pieces = pieces_by_hand(table)
            self.assertEqual(pieces_of(table), pieces)
            for at in range(len(table)):
                piece = [numbers for numbers in pieces if at in numbers][0]
                ends = piece_ends(table, at)
                self.assertEqual(ends, tuple(sorted({end for number in piece for end in table[number]})))
                self.assertEqual(len(ends), len(piece))
                self.assertEqual(beside_of(table, at), [other for other in range(len(table)) if other != at
                                                        and set(table[other]) & set(table[at])])

    def test_holding_ways(self):
        for table in some_tables(94, 80, 8, 6):
            ways = range(len(table[0]))
            expected = []
            for many in range(1, len(table[0]) + 1):
                for chosen in itertools.combinations(ways, many):
                    fewer = [chosen[:at] + chosen[at + 1:] for at in range(many)] if many > 1 else []
                    if holds(table, chosen) and not any(holds(table, less) for less in fewer):
                        expected.append(chosen)
            self.assertEqual(holding_ways(table), sorted(expected))

    def test_count_one(self):
        for table in some_tables(14, 80, 5, 4):
            found = [choice for choice in itertools.product(range(len(table[0])), repeat=len(table))
                     if is_one(table, choice)]
            self.assertEqual(count_one(table), len(found))

    def test_one_number_one_way_and_six(self):
        self.assertEqual([pieces_of(((0,),)), piece_ends(((0,),), 0), beside_of(((0,),), 0)], [[(0,)], (0,), []])
        self.assertEqual([holding_ways(((0,),)), count_one(((0,),))], [[(0,)], 1])
        six = ((0,) * 6,)
        self.assertEqual([holding_ways(six), count_one(six)], [[(way,) for way in range(6)], 6])
        self.assertEqual(count_one(turned(720, (5,))), 1)
        self.assertEqual(holding_ways(turned(720, (5,))), [(0,)])

    def test_limit_of_eight_numbers(self):
        self.assertEqual(count_one(turned(9, (0, 1))), 2)
        self.assertEqual(count_one(turned(720, (0, 7))), 2)
        self.assertEqual(count_one(turned(720, (3, 3))), 2 ** 720)
        # Of each of eight numbers to its two neighbours and itself.
        self.assertEqual(count_one(turned(8, (0, 1, 7))), 49)
        one_more = ((9, 9, 9),) + tuple((at, (at + 1) % 9, at) for at in range(9))
        for table in (turned(9, (0, 1, 2)), turned(720, (0, 1, 1, 1, 1, 1)), turned(10, (0, 5, 1, 2)), one_more):
            with self.assertRaises(TooMany) as caught:
                count_one(table)
            self.assertEqual(caught.exception.limit, 8)
        # Many numbers in small pieces are fine.
        self.assertEqual(count_one(turned(720, (0, 360, 0))), 5 ** 360)
        self.assertEqual(count_one(turned(16, (0, 2, 14))), 49 ** 2)

    def test_great_tables(self):
        self.assertEqual(pieces_of(turned(720, (0, 240))), [(at, at + 240, at + 480) for at in range(240)])
        self.assertEqual(beside_of(turned(720, (0, 1, 10)), 0), [1, 9, 10, 710, 711, 719])
        self.assertEqual(holding_ways(turned(720, (0, 240, 480, 360))), [(1, 3), (2, 3)])
        self.assertEqual(holding_ways(turned(720, (0, 6, 10, 0))), [(0, 1, 2), (1, 2, 3)])

    def test_pieces_of_a_table_of_ways_are_alike(self):
        table = table_of(4, (((0,), (1,)), ((2,), (1,)), ((0, 2), (1,))))
        self.assertEqual(len({len(piece) for piece in pieces_of(table)}), 1)

    def test_errors(self):
        tables, numbers = (BAD_TABLES, InvalidTable), (ODD_INTEGERS + [4], InvalidNumber)
        for function in (pieces_of, holding_ways, count_one):
            check_errors(self, function, (U,), [tables])
        for function in (piece_ends, beside_of):
            check_errors(self, function, (U, 3), [tables, numbers])
        self.assertIs(outcome(beside_of, U, 4), InvalidNumber)
        check_new_list(self, pieces_of, U)
        check_new_list(self, beside_of, U, 0)
        check_new_list(self, holding_ways, U)


if __name__ == "__main__":
    unittest.main()
