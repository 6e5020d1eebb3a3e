"""Promise [71]: ways that may stand for others that act alike, and worsenings."""

import itertools
import random
import unittest

from rungonce.errors import InvalidBells, InvalidIndex, InvalidWays, UnlikeEnds
from rungonce.leadstandings import may_stand_for, worsening_of
from samples import (BAD_INDICES, BAD_WAYS, ODD_BELLS, all_changes, check_errors, heads_by_hand, held_by_hand,
                     group_by_hand, meets_by_hand, outcome, some_lead, spoilt_by_hand)

Y = (((0,), (1,)), ((0,), (0,), (0,), (1,)), ((1,), (0,), (1,), (0,)))


def acting(bells, lead):
    return heads_by_hand(bells, (lead,), (0,))[-1]


def stood_for(course, one, two):
    """All that comes of putting two at any places of one."""
    return itertools.product(*[(way, two) if way == one else (way,) for way in course])


def worse_by_hand(bells, ways, one, two, longest):
    """Whether some short course is worse with two at places of one."""
    spoilt = spoilt_by_hand(bells, ways)
    if two in spoilt and one not in spoilt:
        return True
    for many in range(2, longest + 1):
        for course in itertools.product(range(len(ways)), repeat=many):
            ahead = set(meets_by_hand(bells, ways, course))
            for changed in stood_for(course, one, two):
                if not set(meets_by_hand(bells, ways, changed)) <= ahead:
                    return True
    return False


def worse_by_tables(bells, ways, one, two):
    """The same of all courses, by the guarantee: all tables that come of it lie in those that were there."""
    spoilt, rounds = spoilt_by_hand(bells, ways), tuple(range(bells))
    if two in spoilt and one not in spoilt:
        return True
    for row in group_by_hand(bells, ways):
        meet = [[bool(set(held_by_hand(rounds, lead)) & set(held_by_hand(row, other))) for other in ways]
                for lead in ways]
        for first, second in itertools.product(range(len(ways)), repeat=2):
            for changed in itertools.product(*[(way, two) if way == one else (way,) for way in (first, second)]):
                if meet[changed[0]][changed[1]] and not meet[first][second]:
                    return True
    return False


class LeadStandings(unittest.TestCase):
    def check_worsening(self, bells, ways, one, two, worsening):
        self.assertIs(type(worsening), tuple)
        course, changed, place, later = worsening
        self.assertTrue(type(course) is tuple and type(changed) is tuple and 1 <= len(course) <= 721)
        self.assertTrue(all(way in range(len(ways)) for way in course))
        self.assertEqual(len(course), len(changed))
        self.assertTrue(all(new == old or (old, new) == (one, two) for old, new in zip(course, changed)))
        if place == later:
            spoilt = spoilt_by_hand(bells, ways)
            self.assertTrue(changed[place] in spoilt and course[place] not in spoilt)
        else:
            self.assertTrue(place < later)
            self.assertIn((place, later), meets_by_hand(bells, ways, changed))
            self.assertNotIn((place, later), meets_by_hand(bells, ways, course))

    def check_ways(self, bells, ways, one, two, worse):
        self.assertIs(may_stand_for(bells, ways, one, two), not worse)
        worsening = worsening_of(bells, ways, one, two)
        self.assertEqual(worsening is not None, worse)
        if worse:
            self.check_worsening(bells, ways, one, two, worsening)
        return worse

    def test_examples(self):
        self.assertEqual(
            [may_stand_for(3, Y, 0, 1), may_stand_for(3, Y, 1, 0), may_stand_for(3, Y, 0, 2), worsening_of(3, Y, 0, 0)],
            [False, True, False, None])

    def test_examples_have_worsenings(self):
        for one, two in itertools.product(range(3), repeat=2):
            self.check_ways(3, Y, one, two, worse_by_hand(3, Y, one, two, 4))

    def test_small_ways_against_short_courses(self):
        dice = random.Random(71)
        counts = {True: 0, False: 0}
        while min(counts.values()) < 25:
            ways = tuple(some_lead(dice, 3, 4) for _ in range(dice.choice((2, 2, 3))))
            if acting(3, ways[0]) == acting(3, ways[1]) and len(set(ways)) == len(ways):
                for one, two in ((0, 1), (1, 0)):
                    worse = worse_by_hand(3, ways, one, two, 5 if len(ways) == 2 else 4)
                    # Two ways of three bells lead to all rows that they come to in four leads.
                    self.assertEqual(worse_by_tables(3, ways, one, two), worse)
                    counts[self.check_ways(3, ways, one, two, worse)] += 1

    def test_greater_ways_against_tables(self):
        dice = random.Random(711)
        counts = {True: 0, False: 0}
        while min(counts.values()) < 15:
            bells = dice.choice((4, 4, 5))
            changes = all_changes(bells)
            lead = some_lead(dice, bells, 4)
            # The same rows in another order, or some more of them.
            at = dice.randrange(len(lead))
            change = dice.choice(changes)
            longer = lead[:at] + dice.choice(((change, change), ((),))) + lead[at:]
            ways = (lead, longer) + tuple(some_lead(dice, bells, 3) for _ in range(dice.randint(0, 2)))
            for one, two in ((0, 1), (1, 0)):
                counts[self.check_ways(bells, ways, one, two, worse_by_tables(bells, ways, one, two))] += 1

    def test_a_way_in_the_place_of_itself(self):
        for bells, ways in ((3, Y), (6, (((), ()),)), (6, tuple(((place,),) for place in range(5)))):
            for one in range(len(ways)):
                self.check_ways(bells, ways, one, one, False)

    def test_ways_that_are_the_same(self):
        self.check_ways(3, Y + Y[:1], 0, 3, False)
        self.check_ways(3, Y + Y[:1], 3, 0, False)

    def test_spoilt_ways(self):
        # The same rows are held, by the one without any of them twice.
        ways = (((0,), (0,)), ((0,), (0,), (0,), (0,)))
        self.check_ways(3, ways, 0, 1, True)
        self.check_ways(3, ways, 1, 0, False)
        self.assertEqual(worsening_of(3, ways, 0, 1), ((0,), (1,), 0, 0))
        # Both spoilt: what is held alike is no worse.
        both = (((0,),) * 4, ((0,),) * 6)
        self.check_ways(3, both, 0, 1, False)
        self.check_ways(3, both, 1, 0, False)

    def test_worsenings_beside_a_third_way(self):
        # Beside one another they hold the same tables; only a third way meets the one and not the other.
        dice = random.Random(712)
        found = 0
        while found < 5:
            pair = tuple(some_lead(dice, 4, 4) for _ in range(2))
            if acting(4, pair[0]) == acting(4, pair[1]) and not spoilt_by_hand(4, pair):
                ways = pair + (some_lead(dice, 4, 3),)
                if worse_by_tables(4, ways, 0, 1) and not worse_by_tables(4, pair, 0, 1):
                    self.check_ways(4, ways, 0, 1, True)
                    found += 1

    def test_great_groups(self):
        # Both ways act alike, and the one holds two rows more, with a bell that no way leads anywhere.
        ways = (((0,), (2,)), ((0,), (4,), (4,), (2,)), ((1,),), ((3,),))
        self.assertEqual(len(group_by_hand(6, ways)), 120)
        self.check_ways(6, ways, 0, 1, True)
        self.assertEqual(worsening_of(6, ways, 0, 1)[2:], (0, len(worsening_of(6, ways, 0, 1)[0]) - 1))
        all_six = tuple(((place,),) for place in range(4)) + (((4,),), ((4,), (0,), (0,)))
        self.assertEqual(len(group_by_hand(6, all_six)), 720)
        self.check_ways(6, all_six, 4, 5, True)
        self.assertIs(may_stand_for(6, all_six, 4, 4), True)

    def test_unlike_ends_are_told_last(self):
        for function in (may_stand_for, worsening_of):
            self.assertIs(outcome(function, 3, Y + (((0,),),), 0, 3), UnlikeEnds)
            self.assertIs(outcome(function, 3, Y + (((0,),),), 3, 0), UnlikeEnds)
            self.assertIs(outcome(function, 3, Y + (((0,),),), 3, 4), InvalidIndex)
            self.assertIs(outcome(function, 3, Y + (((0,),),), 4, 3), InvalidIndex)
            self.assertIs(outcome(function, 3, Y + (((0,),),), True, 3), InvalidIndex)
            # Ways that are spoilt, and ways that hold the same rows, may lead to unlike ends, too.
            self.assertIs(outcome(function, 3, (((0,),), ((1,),)), 0, 1), UnlikeEnds)
            self.assertIs(outcome(function, 3, (((0,),), ((), ())), 0, 1), UnlikeEnds)

    def test_errors(self):
        bells, ways, indices = (ODD_BELLS, InvalidBells), (BAD_WAYS, InvalidWays), (BAD_INDICES, InvalidIndex)
        for function in (may_stand_for, worsening_of):
            check_errors(self, function, (4, Y[:2], 0, 1), [bells, ways, indices, indices])


if __name__ == "__main__":
    unittest.main()
