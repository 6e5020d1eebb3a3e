"""Promise [70]: tables of meetings, ways alike in meetings, and partings."""

import itertools
import random
import unittest

from rungonce.errors import InvalidBells, InvalidIndex, InvalidWays
from rungonce.groups import group_of
from rungonce.leadbeginnings import begun_elsewhere, common_beginning, mirrored_ways
from rungonce.leadmeetings import alike_in_meetings, meetings_of, parting_of
from rungonce.rowroads import least_road
from samples import (BAD_INDICES, BAD_WAYS, ODD_BELLS, check_errors, check_limit, group_by_hand, held_by_hand,
                     heads_by_hand, meets_by_hand, outcome, some_ways, spoilt_by_hand)

X = (((0,), (1,)), ((0,), ()))


def table_by_hand(bells, ways, one, two):
    first = set(held_by_hand(tuple(range(bells)), ways[one]))
    return tuple(row for row in group_by_hand(bells, ways) if first & set(held_by_hand(row, ways[two])))


def pairs_by_hand(bells, ways, number, others):
    """All pairs of rows to which ways lead rounds, theirs and the others'."""
    pairs = [(tuple(range(bells)), tuple(range(number)))]
    seen = set(pairs)
    for row, other in pairs:
        for lead, other_lead in zip(ways, others):
            ends = (heads_by_hand(bells, (lead,), (0,))[-1], heads_by_hand(number, (other_lead,), (0,))[-1])
            pair = (tuple(row[bell] for bell in ends[0]), tuple(other[bell] for bell in ends[1]))
            if pair not in seen:
                seen.add(pair)
                pairs.append(pair)
    return pairs


def acting_by(bells, row):
    """A way that acts by a row."""
    return least_road(tuple(range(bells)), row) or ((),)


def alike_by_tables(bells, ways, number, others):
    if spoilt_by_hand(bells, ways) != spoilt_by_hand(number, others):
        return False
    for one, two in itertools.product(range(len(ways)), repeat=2):
        table, other_table = table_by_hand(bells, ways, one, two), table_by_hand(number, others, one, two)
        for row, other in pairs_by_hand(bells, ways, number, others):
            if (row in table) != (other in other_table):
                return False
    return True


class LeadMeetings(unittest.TestCase):
    def check_parting(self, bells, ways, number, others, parting):
        course, place, later = parting
        self.assertTrue(type(parting) is tuple and type(course) is tuple and 1 <= len(course) <= 501)
        self.assertTrue(0 <= place <= later < len(course) and all(way in range(len(ways)) for way in course))
        if place == later:
            way = course[place]
            self.assertNotEqual(way in spoilt_by_hand(bells, ways), way in spoilt_by_hand(number, others))
        else:
            self.assertNotEqual((place, later) in meets_by_hand(bells, ways, course),
                                (place, later) in meets_by_hand(number, others, course))

    def check_ways(self, bells, ways, number, others, longest):
        """Compare with what all short courses tell."""
        alike = alike_in_meetings(bells, ways, number, others)
        parting = parting_of(bells, ways, number, others)
        self.assertIs(parting is None, alike)
        self.assertIs(type(alike), bool)
        if not alike:
            self.check_parting(bells, ways, number, others, parting)
            return alike
        self.assertEqual(spoilt_by_hand(bells, ways), spoilt_by_hand(number, others))
        for many in range(longest + 1):
            for course in itertools.product(range(len(ways)), repeat=many):
                self.assertEqual(meets_by_hand(bells, ways, course), meets_by_hand(number, others, course))
        return alike

    def test_examples(self):
        self.assertEqual(
            [meetings_of(3, X, 0, 0), meetings_of(3, X, 0, 1), alike_in_meetings(3, X, 3, (X[1], X[0])),
             alike_in_meetings(3, X, 3, (((1,), (0,)), ((1,), ())))],
            [((0, 1, 2), (1, 0, 2)), ((0, 1, 2), (1, 0, 2)), False, True])

    def test_tables(self):
        dice = random.Random(70)
        kept, left = 0, 0
        for _ in range(60):
            bells = dice.choice((2, 3, 4, 4, 5))
            ways = some_ways(dice, bells)
            for one, two in itertools.product(range(len(ways)), repeat=2):
                expected = table_by_hand(bells, ways, one, two)
                self.assertEqual(meetings_of(bells, ways, one, two), expected)
                kept += 1
                left += len(expected) < len(group_of(bells, ways))
        self.assertTrue(0 < left < kept)

    def test_tables_have_rows_of_the_group_alone(self):
        # The rows that are held are met from other rows, too, to which these ways never lead.
        self.assertEqual(meetings_of(3, (((0,), (0,)),), 0, 0), ((0, 1, 2),))
        self.assertEqual(meetings_of(4, (((0,), (2,), (0,), (2,)),), 0, 0), ((0, 1, 2, 3),))
        self.assertEqual(meetings_of(6, (((),),), 0, 0), ((0, 1, 2, 3, 4, 5),))

    def test_small_ways_against_all_short_courses(self):
        dice = random.Random(701)
        counts = {True: 0, False: 0}
        while min(counts.values()) < 40:
            bells, number = dice.randint(2, 3), dice.randint(2, 3)
            ways = some_ways(dice, bells)[:2]
            others = some_ways(dice, number)[:len(ways)]
            if len(others) == len(ways):
                counts[self.check_ways(bells, ways, number, others, 6)] += 1

    def test_small_ways_against_tables(self):
        dice = random.Random(702)
        answers = []
        while len(answers) < 150:
            bells, number = dice.choice(((2, 2), (2, 3), (3, 2), (3, 3), (4, 3), (4, 2), (5, 2)))
            ways = some_ways(dice, bells)[:3]
            others = some_ways(dice, number)[:len(ways)]
            if len(others) == len(ways):
                answers.append(alike_by_tables(bells, ways, number, others))
                self.assertIs(alike_in_meetings(bells, ways, number, others), answers[-1])
                parting = parting_of(bells, ways, number, others)
                if parting is not None:
                    self.check_parting(bells, ways, number, others, parting)
        self.assertEqual(set(answers), {True, False})

    def test_mirrored_ways_and_the_same_ones_are_alike(self):
        dice = random.Random(703)
        for _ in range(60):
            bells = dice.choice((2, 3, 4, 5))
            ways = some_ways(dice, bells)
            self.assertIs(alike_in_meetings(bells, ways, bells, ways), True)
            self.assertIs(alike_in_meetings(bells, ways, bells, mirrored_ways(bells, ways)), True)
            self.assertIsNone(parting_of(bells, ways, bells, mirrored_ways(bells, ways)))

    def test_with_bells_that_stand_still(self):
        # Of more bells, the last ones of which never move, the same ways are alike.
        self.assertIs(alike_in_meetings(3, X, 6, X), True)
        self.assertIs(alike_in_meetings(2, (((0,),),), 6, (((0, 2, 4),),)), True)

    def test_ways_begun_elsewhere_part_or_do_not(self):
        ways = (((0,), (1,), (0,)), ((0,), (1,), ()))
        for number in range(common_beginning(3, ways) + 1):
            self.check_ways(3, ways, 3, begun_elsewhere(3, ways, number), 6)

    def test_ways_spoilt_for_one(self):
        # Both act by rounds, and hold the same rows, one of them twice.
        ways, others = (((0,), (0,)),), (((0,), (0,), (0,), (0,)),)
        self.assertIs(alike_in_meetings(3, ways, 3, others), False)
        self.assertEqual(parting_of(3, ways, 3, others), ((0,), 0, 0))
        self.assertIs(alike_in_meetings(3, others, 3, others), True)
        self.assertEqual(parting_of(3, X + ways, 3, X + others), ((2,), 0, 0))
        # Spoilt both; what meets is the same, as all places do.
        self.assertIs(alike_in_meetings(3, (((), ()),), 2, (((0,), (0,), (0,)),)), True)

    def test_partings_behind_a_long_road(self):
        # One way alone, that comes round behind six leads, beside one that does behind five.
        six, five = ((0, 2, 4), (1, 3)), ((0, 2), (1, 3))
        parting = parting_of(6, (six,), 5, (five,))
        self.assertEqual(parting, ((0,) * 6, 0, 5))
        self.check_parting(6, (six,), 5, (five,), parting)
        lengths = set()
        dice = random.Random(704)
        for _ in range(60):
            bells, number = dice.choice(((4, 4), (5, 3), (3, 5), (4, 3)))
            count = dice.randint(1, 3)
            ways = tuple(acting_by(bells, tuple(dice.sample(range(bells), bells))) for _ in range(count))
            others = tuple(acting_by(number, tuple(dice.sample(range(number), number))) for _ in range(count))
            parting = outcome(parting_of, bells, ways, number, others)
            if isinstance(parting, tuple):
                self.check_parting(bells, ways, number, others, parting)
                lengths.add(len(parting[0]))
        self.assertTrue({2, 3, 4} <= lengths)

    def test_limit(self):
        # By itself each half: 24 rows and 20 rows, 9 rows and 60 rows, 24 rows and 24 rows.
        turned = ((1, 2, 3, 4, 0), (0, 2, 4, 1, 3))
        threes = ((1, 2, 0, 3, 4, 5), (0, 1, 2, 4, 5, 3))
        even = ((1, 2, 3, 4, 0), (1, 2, 0, 3, 4))
        all_four = ((1, 0, 2, 3), (1, 2, 3, 0))
        for first, second, count in ((all_four, turned, 480), (turned, all_four, 480), (threes, even, 540),
                                     (even, threes, 540), (all_four, all_four, 576)):
            bells, number = len(first[0]), len(second[0])
            ways = tuple(acting_by(bells, row) for row in first) + (((),), ((),))
            others = (((),), ((),)) + tuple(acting_by(number, row) for row in second)
            self.assertEqual(len(pairs_by_hand(bells, ways, number, others)), count)
            if count <= 500:
                parting = parting_of(bells, ways, number, others)
                self.assertIs(alike_in_meetings(bells, ways, number, others), False)
                self.check_parting(bells, ways, number, others, parting)
            else:
                for function in (alike_in_meetings, parting_of):
                    check_limit(self, 500, function, bells, ways, number, others)

    def test_limit_where_all_else_is_told(self):
        all_six = tuple(((place,),) for place in range(5))
        others = all_six[1:] + all_six[:1]
        for function in (alike_in_meetings, parting_of):
            # All rows of six bells are more than 500 pairs already, be the ways the same, or one of them spoilt.
            check_limit(self, 500, function, 6, all_six, 6, all_six)
            check_limit(self, 500, function, 6, all_six, 6, others)
            check_limit(self, 500, function, 6, all_six + (((), ()),), 6, all_six + (((),),))
            # It is told behind all other errors.
            self.assertIs(outcome(function, 6, all_six, 7, others), InvalidBells)
            self.assertIs(outcome(function, 6, all_six, 6, others[:4]), InvalidWays)
            self.assertIs(outcome(function, 6, all_six, 6, others + (((5,),),)), InvalidWays)
        # 360 rows are not too many.
        even = tuple(acting_by(6, row) for row in ((1, 2, 0, 3, 4, 5), (0, 2, 3, 4, 5, 1)))
        self.assertEqual(len(pairs_by_hand(6, even, 6, even)), 360)
        self.assertIs(alike_in_meetings(6, even, 6, even), True)

    def test_errors(self):
        bells, ways = (ODD_BELLS, InvalidBells), (BAD_WAYS, InvalidWays)
        indices = (BAD_INDICES, InvalidIndex)
        check_errors(self, meetings_of, (4, X, 0, 1), [bells, ways, indices, indices])
        others = (BAD_WAYS + [X[:1], X + X[:1]], InvalidWays)
        for function in (alike_in_meetings, parting_of):
            check_errors(self, function, (4, X, 4, X), [bells, ways, bells, others])
            # The others must be ways of their number of bells.
            self.assertIs(outcome(function, 4, (((2,),),), 3, (((2,),),)), InvalidWays)
            self.assertIs(outcome(function, 3, (((2,),),), 4, (((2,),),)), InvalidWays)


if __name__ == "__main__":
    unittest.main()
