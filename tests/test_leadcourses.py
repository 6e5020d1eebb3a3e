"""Promise [69]: courses of ways, the rows that these hold, and the places that meet."""

import itertools
import random
import unittest

from rungonce.compositions import comes_round, twice_rung, ways_by
from rungonce.errors import InvalidBells, InvalidCourse, InvalidWays
from rungonce.leadcourses import heads_of, is_clean, is_course, places_that_meet, rows_held, spoilt_ways
from samples import (BAD_COURSES, BAD_WAYS, ODD_BELLS, all_changes, check_errors, check_new_list, heads_by_hand,
                     held_in_course, meets_by_hand, some_lead, some_ways, spoilt_by_hand)

X = (((0,), (1,)), ((0,), ()))
OF_COURSES = (heads_of, rows_held, places_that_meet, is_clean)


class LeadCourses(unittest.TestCase):
    def check_course(self, bells, ways, course):
        self.assertIs(is_course(bells, ways, course), True)
        self.assertEqual(heads_of(bells, ways, course), heads_by_hand(bells, ways, course))
        self.assertEqual(rows_held(bells, ways, course), held_in_course(bells, ways, course))
        meets = meets_by_hand(bells, ways, course)
        self.assertEqual(places_that_meet(bells, ways, course), meets)
        clean = meets == [] and not set(course) & set(spoilt_by_hand(bells, ways))
        self.assertIs(is_clean(bells, ways, course), clean)
        return clean

    def test_examples(self):
        self.assertEqual(
            [heads_of(3, X, (0, 1)), rows_held(3, X, (0, 1)), spoilt_ways(3, X + (((0,), (0,), (1,)),)),
             places_that_meet(3, X, (0, 0, 0, 0)), is_clean(3, X, (0, 0, 0))],
            [[(0, 1, 2), (1, 2, 0), (2, 1, 0)], [[(0, 1, 2), (1, 0, 2)], [(1, 2, 0), (2, 1, 0)]], [2], [(0, 3)], True])

    def test_some_courses(self):
        dice = random.Random(69)
        answers = set()
        for bells in (2, 3, 4, 5, 6):
            for _ in range(30):
                ways = some_ways(dice, bells)
                for many in (0, 1, 2, 3, 5, 12):
                    course = tuple(dice.randrange(len(ways)) for _ in range(many))
                    answers.add(self.check_course(bells, ways, course))
        self.assertEqual(answers, {True, False})

    def test_all_short_courses(self):
        ways = X + (((0,), (0,)), ((),))
        for many in range(6):
            for course in itertools.product(range(4), repeat=many):
                self.check_course(3, ways, course)

    def test_spoilt_ways(self):
        dice = random.Random(691)
        for _ in range(200):
            bells = dice.randint(2, 6)
            ways = some_ways(dice, bells)
            self.assertEqual(spoilt_ways(bells, ways), spoilt_by_hand(bells, ways))
        # The last row is not held: a way that leads back to where it began is spoilt only if it is there ahead of this.
        self.assertEqual(spoilt_ways(3, (((),), ((), ()), ((0,), (0,)), ((0,), (0,), (0,)), ((0,), (1,)) * 3)), [1, 3])
        self.assertEqual(spoilt_ways(3, (((0,), (1,)) * 3 + ((0,),),)), [0])
        self.assertEqual(spoilt_ways(6, (((0, 2, 4), (1, 3)) * 6, ((0, 2, 4), (1, 3)) * 7)), [1])

    def test_spoilt_ways_alone_and_among_others(self):
        ways = X + (((0,), (0,), (1,)),)
        self.assertEqual([places_that_meet(3, ways, (2,)), is_clean(3, ways, (2,))], [[], False])
        self.assertEqual([places_that_meet(3, ways, (0, 2)), is_clean(3, ways, (0, 2))], [[], False])
        self.assertIs(is_clean(3, ways, (0,)), True)

    def test_no_place_and_the_most_places(self):
        self.check_course(3, X, ())
        self.assertEqual([heads_of(3, X, ()), rows_held(3, X, ()), places_that_meet(3, X, ()), is_clean(3, X, ())],
                         [[(0, 1, 2)], [], [], True])
        dice = random.Random(692)
        ways = tuple(tuple(dice.choice(all_changes(6)) for _ in range(24)) for _ in range(6))
        self.check_course(6, ways, tuple(dice.randrange(6) for _ in range(800)))
        self.assertEqual(len(places_that_meet(2, (((),),), (0,) * 800)), 800 * 799 // 2)
        self.assertIs(is_course(3, X, (1,) * 801), False)

    def test_courses_whose_end_is_rounds(self):
        # The end is held by no place, so that it may be rounds.
        self.assertEqual(heads_of(3, X, (0, 0, 0))[-1], (0, 1, 2))
        self.assertIs(is_clean(3, X, (0, 0, 0)), True)
        self.assertIs(is_clean(3, X, (0, 0, 0, 1)), False)
        self.assertEqual(places_that_meet(3, X, (1, 1)), [(0, 1)])
        self.assertIs(is_clean(3, (((0,),),), (0, 0)), True)
        self.assertEqual(places_that_meet(2, (((),),), (0, 0)), [(0, 1)])
        self.assertIs(is_clean(2, (((),),), (0,)), True)

    def test_compositions_are_true_just_as_their_courses_are_clean(self):
        dice = random.Random(693)
        answers = set()
        for _ in range(4000):
            bells = dice.randint(2, 4)
            lead = some_lead(dice, bells, 3)
            calls = tuple(dice.choice(all_changes(bells)) for _ in range(dice.randint(0, 3)))
            composition = tuple(dice.randint(0, len(calls)) for _ in range(dice.randint(1, 6)))
            if comes_round(bells, lead, calls, composition):
                true = twice_rung(bells, lead, calls, composition) is None
                self.assertIs(is_clean(bells, ways_by(bells, lead, calls), composition), true)
                answers.add((len(composition), true))
        self.assertTrue({(1, True), (1, False), (2, True), (3, True), (4, True), (3, False)} <= answers)

    def test_any_value_may_be_asked_for(self):
        for value in BAD_COURSES:
            self.assertIs(is_course(4, X, value), False, value)
        self.assertIs(is_course(4, X, (0, 1) * 400), True)

    def test_errors(self):
        bells, ways, courses = (ODD_BELLS, InvalidBells), (BAD_WAYS, InvalidWays), (BAD_COURSES, InvalidCourse)
        check_errors(self, spoilt_ways, (4, X), [bells, ways])
        check_errors(self, is_course, (4, X, (0, 1)), [bells, ways, None])
        for function in OF_COURSES:
            check_errors(self, function, (4, X, (0, 1)), [bells, ways, courses])
        for function in (heads_of, rows_held, places_that_meet):
            check_new_list(self, function, 4, X, (0, 1, 0))
        check_new_list(self, spoilt_ways, 4, X)


if __name__ == "__main__":
    unittest.main()
