"""Promise [47]: classes of two ways."""

import itertools
import unittest

from rungonce.choices import two_that_meet
from rungonce.classes import class_clash, class_of, classes_of, count_kept, count_leadings, ends_of
from rungonce.errors import InvalidChoice, InvalidNumber, InvalidTable, InvalidWay
from rungonce.groups import table_of
from samples import BAD_TABLES, ODD_INTEGERS, ODD_VALUES, check_errors, check_new_list, outcome, some_tables

T = table_of(3, (((0,),), ((1,),)))
U = ((1, 1, 0), (0, 0, 2), (2, 3, 1), (3, 2, 3))


def follower(table, one, two, number):
    return [other for other in range(len(table)) if table[other][two] == table[number][one]][0]


def clashes(table, one, two, choice):
    pairs = [(number, follower(table, one, two, number)) for number in range(len(table))]
    return [(g, h) for g, h in pairs if g != h and (choice[g], choice[h]) == (one, two)]


def class_by_hand(table, one, two, at):
    numbers = [at]
    while follower(table, one, two, numbers[-1]) != at:
        numbers.append(follower(table, one, two, numbers[-1]))
    turn = numbers.index(min(numbers))
    return tuple(numbers[turn:] + numbers[:turn])


class Classes(unittest.TestCase):
    def test_examples(self):
        self.assertEqual(
            [classes_of(T, 0, 1), class_of(T, 1, 0, 4), ends_of(T, 0, 1, 0), class_clash(T, 0, 1, (0, 1, 1, 0, 0, 0)),
             count_kept(T, 0, 1)],
            [[(0, 3, 4), (1, 5, 2)], (0, 4, 3), (2, 5, 1), (5, 2), 4])
        self.assertEqual(
            [classes_of(U, 0, 1), count_kept(U, 0, 1), count_leadings(U, 0, 1), classes_of(U, 2, 2), classes_of(U, 0, 2)],
            [[(0,), (1,), (2, 3)], 8, 2, [(0,), (1,), (2,), (3,)], [(0, 2, 1), (3,)]])

    def test_classes_and_ends(self):
        for table in some_tables(47, 60, 12, 6):
            for one, two in itertools.product(range(len(table[0])), repeat=2):
                found = [class_by_hand(table, one, two, at) for at in range(len(table))]
                self.assertEqual(classes_of(table, one, two), sorted(set(found)))
                for at in range(len(table)):
                    self.assertEqual(class_of(table, one, two, at), found[at])
                    ends = ends_of(table, one, two, at)
                    self.assertEqual(ends, tuple(table[number][one] for number in found[at]))
                    # The end ahead of a number's own one is that by the second way.
                    ahead = ends[-1:] + ends[:-1]
                    self.assertEqual(ahead, tuple(table[number][two] for number in found[at]))

    def test_clashes_and_counts(self):
        for table in some_tables(4, 50, 6, 3):
            for one, two in itertools.product(range(len(table[0])), repeat=2):
                kept = []
                for choice in itertools.product(sorted({one, two}), repeat=len(table)):
                    expected = clashes(table, one, two, choice)
                    found = class_clash(table, one, two, choice)
                    self.assertTrue(found in expected if expected else found is None)
                    self.assertEqual(found is None, two_that_meet(table, choice) is None)
                    if not expected:
                        kept.append(tuple(item[way] for item, way in zip(table, choice)))
                self.assertEqual(count_kept(table, one, two), len(kept))
                self.assertEqual(count_leadings(table, one, two), len(set(kept)))

    def test_classes_of_a_table_of_ways_are_of_one_size(self):
        table = table_of(4, (((0,), (1,)), ((2,),), ((0, 2), (1,), ())))
        for one, two in itertools.product(range(3), repeat=2):
            self.assertEqual(len({len(numbers) for numbers in classes_of(table, one, two)}), 1)

    def test_same_indices_and_ways_that_lead_alike(self):
        self.assertEqual(count_kept(T, 1, 1), 1)
        self.assertEqual(count_leadings(T, 1, 1), 1)
        self.assertIsNone(class_clash(T, 1, 1, (1,) * 6))
        alike = tuple((at, at) for at in range(5))
        self.assertEqual([count_kept(alike, 0, 1), count_leadings(alike, 0, 1)], [32, 1])
        self.assertIsNone(class_clash(alike, 0, 1, (0, 1, 0, 1, 1)))
        self.assertEqual(classes_of(((0,),), 0, 0), [(0,)])

    def test_great_tables(self):
        turn = tuple((at, (at + 1) % 720) for at in range(720))
        self.assertEqual(classes_of(turn, 1, 0), [tuple(range(720))])
        self.assertEqual(class_of(turn, 0, 1, 719), (0,) + tuple(range(719, 0, -1)))
        alike = tuple((at,) * 6 for at in range(720))
        self.assertEqual(count_kept(alike, 0, 5), 2 ** 720)

    def test_a_choice_must_be_of_the_two_ways(self):
        self.assertIsNone(class_clash(U, 0, 2, (0, 0, 0, 2)))
        self.assertIs(outcome(class_clash, U, 0, 2, (0, 0, 0, 1)), InvalidChoice)
        self.assertIs(outcome(class_clash, U, 1, 1, (1, 1, 1, 0)), InvalidChoice)
        self.assertIs(outcome(class_clash, U, 0, 1, (0, 0, 0, True)), InvalidChoice)
        self.assertIs(outcome(class_clash, U, 0, 1, (0, 0, 0)), InvalidChoice)

    def test_errors(self):
        tables, ways = (BAD_TABLES, InvalidTable), (ODD_INTEGERS + [3], InvalidWay)
        numbers = (ODD_INTEGERS + [4], InvalidNumber)
        choices = (ODD_VALUES + [(), 0, (0, 0, 0), [0, 0, 0, 0], (0, 0, 0, 3), (0, 0, 0, 2)], InvalidChoice)
        for function in (classes_of, count_kept, count_leadings):
            check_errors(self, function, (U, 0, 1), [tables, ways, ways])
        for function in (class_of, ends_of):
            check_errors(self, function, (U, 0, 2, 3), [tables, ways, ways, numbers])
        check_errors(self, class_clash, (U, 0, 1, (0, 0, 1, 1)), [tables, ways, ways, choices])
        check_new_list(self, classes_of, U, 0, 1)


if __name__ == "__main__":
    unittest.main()
