"""Promise [72]: the common beginning of ways, ways begun elsewhere, and mirrored ways."""

import random
import unittest

from rungonce.errors import InvalidBells, InvalidNumber, InvalidWays
from rungonce.leadbeginnings import begun_by, begun_elsewhere, common_beginning, mirrored_ways
from rungonce.leadcourses import heads_of, is_clean
from samples import BAD_WAYS, ODD_BELLS, ODD_INTEGERS, all_changes, check_errors, outcome, ring, some_lead, some_ways

X = (((0,), (1,)), ((0,), ()))


def ways_begun_alike(dice, bells):
    """Ways with some changes alike at their beginnings, or all of them."""
    beginning = some_lead(dice, bells, 4)
    ways = [beginning + some_lead(dice, bells, 3)[dice.randint(0, 1):] for _ in range(dice.randint(1, 4))]
    return tuple(ways)


def common_by_hand(ways):
    count = 0
    while all(len(lead) > count for lead in ways) and len({lead[count] for lead in ways}) == 1:
        count += 1
    return count


class LeadBeginnings(unittest.TestCase):
    def test_examples(self):
        self.assertEqual(
            [common_beginning(3, X), begun_elsewhere(3, X, 1), mirrored_ways(4, (((0,), (0, 2), ()),)),
             begun_by(3, X, (((1,), (0,)), ((), (0,)))), begun_by(3, X, X[::-1])],
            [1, (((1,), (0,)), ((), (0,))), (((2,), (0, 2), ()),), 1, None])

    def test_some_ways(self):
        dice = random.Random(72)
        counts = set()
        for _ in range(150):
            bells = dice.randint(2, 6)
            ways = dice.choice((some_ways, ways_begun_alike))(dice, bells)
            common = common_by_hand(ways)
            counts.add(common)
            self.assertEqual(common_beginning(bells, ways), common)
            begun = []
            for number in range(common + 1):
                others = []
                for lead in ways:
                    changes = list(lead)
                    for _ in range(number):
                        changes.append(changes.pop(0))
                    others.append(tuple(changes))
                begun.append(tuple(others))
                self.assertEqual(begun_elsewhere(bells, ways, number), begun[-1])
            for others in begun:
                self.assertEqual(begun_by(bells, ways, others), begun.index(others))
            self.assertIs(outcome(begun_elsewhere, bells, ways, common + 1), InvalidNumber)
            others = tuple(some_lead(dice, bells, 3) for _ in ways)
            self.assertEqual(begun_by(bells, ways, others), begun.index(others) if others in begun else None)
        self.assertTrue({0, 1, 2, 3, 4, 5} <= counts)

    def test_as_long_as_the_shortest_way(self):
        ways = (((0,), (1,), (0,)), ((0,), (1,)))
        self.assertEqual(common_beginning(3, ways), 2)
        self.assertEqual(begun_elsewhere(3, ways, 2), (((0,), (0,), (1,)), ((0,), (1,))))
        self.assertEqual(begun_elsewhere(3, ways, 0), ways)
        self.assertIs(outcome(begun_elsewhere, 3, ways, 3), InvalidNumber)
        # A way alone has all of its changes in common, and begun behind all of them it is itself.
        lead = ((0,), (1,), (0,)) * 8
        self.assertEqual(common_beginning(3, (lead,)), 24)
        self.assertEqual(begun_elsewhere(3, (lead,), 24), (lead,))
        self.assertEqual(begun_by(3, (lead,), (lead,)), 0)
        self.assertEqual(begun_by(3, (lead,), (lead[2:] + lead[:2],)), 2)
        self.assertEqual(common_beginning(3, (lead, lead)), 24)
        self.assertEqual(common_beginning(2, (((),), ((0,),))), 0)

    def test_least_number(self):
        ways = (((0,), (0,), (0,), (1,)), ((0,), (0,), (0,), ()))
        self.assertEqual([begun_by(3, ways, begun_elsewhere(3, ways, number)) for number in range(4)], [0, 1, 2, 3])
        again = (((0,), (1,)) * 3,)
        self.assertEqual([begun_by(3, again, begun_elsewhere(3, again, number)) for number in range(7)],
                         [0, 1, 0, 1, 0, 1, 0])

    def test_each_way_by_the_same_number_up_to_the_common_beginning(self):
        # These would be led over by two changes, but have one in common only.
        ways = (((0,), (1,), ()), ((0,), (), ()))
        self.assertIsNone(begun_by(3, ways, (((), (0,), (1,)), ((), (0,), ()))))
        self.assertIsNone(begun_by(3, ways, (((1,), (), (0,)), ((0,), (), ()))))
        self.assertEqual(begun_by(3, ways, (((1,), (), (0,)), ((), (), (0,)))), 1)

    def test_mirrored_ways(self):
        dice = random.Random(721)
        for _ in range(100):
            bells = dice.randint(2, 6)
            ways = some_ways(dice, bells)
            mirrored = mirrored_ways(bells, ways)
            self.assertIs(type(mirrored), tuple)
            self.assertEqual(mirrored_ways(bells, mirrored), ways)
            turned = {bell: bells - 1 - bell for bell in range(bells)}
            for lead, other in zip(ways, mirrored):
                rows = [tuple(turned[bell] for bell in row[::-1]) for row in ring(tuple(range(bells)), lead)]
                self.assertEqual(ring(tuple(range(bells)), other), rows)
                self.assertTrue(all(change in all_changes(bells) for change in other))

    def test_ways_begun_elsewhere_come_round_and_are_clean_alike(self):
        dice = random.Random(722)
        found = set()
        for _ in range(300):
            bells = dice.choice((2, 3, 3, 4))
            ways = ways_begun_alike(dice, bells)
            for number in range(1, common_beginning(bells, ways) + 1):
                others = begun_elsewhere(bells, ways, number)
                course = tuple(dice.randrange(len(ways)) for _ in range(dice.randint(1, 4)))
                rounds = tuple(range(bells))
                comes = heads_of(bells, ways, course)[-1] == rounds
                self.assertEqual(heads_of(bells, others, course)[-1] == rounds, comes)
                if comes:
                    self.assertEqual(is_clean(bells, others, course), is_clean(bells, ways, course))
                    found.add(is_clean(bells, ways, course))
        self.assertEqual(found, {True, False})

    def test_errors(self):
        bells, ways = (ODD_BELLS, InvalidBells), (BAD_WAYS, InvalidWays)
        check_errors(self, common_beginning, (4, X), [bells, ways])
        check_errors(self, mirrored_ways, (4, X), [bells, ways])
        check_errors(self, begun_elsewhere, (4, X, 1), [bells, ways, (ODD_INTEGERS + [2, 3, 24], InvalidNumber)])
        check_errors(self, begun_by, (4, X, X), [bells, ways, (BAD_WAYS + [X[:1], X + X[:1]], InvalidWays)])
        self.assertIs(outcome(begun_by, 3, X, (((2,),), ((0,),))), InvalidWays)


if __name__ == "__main__":
    unittest.main()
