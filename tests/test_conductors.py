"""Promise [81]: conductors, who lead a composition on, take it back, and ring it anew."""

import random
import unittest

from rungonce.conductors import Conductor
from rungonce.errors import (InvalidBells, InvalidCalls, InvalidLead, InvalidWay, NothingToRedo, NothingToUndo,
                             OnceError, TooMany)
from rungonce.tours import is_tour
from samples import (BAD_CALLS, BAD_LEADS, ODD_BELLS, ODD_INTEGERS, ODD_VALUES, check_errors, check_limit,
                     fault_by_hand, heads_by_hand, outcome, ring, rows_by_hand, some_method, ways_by_hand)

METHOD = (3, ((0,), (1,)), ((),))


class Mishap(Exception):
    pass


class Stop(BaseException):
    pass


def led(method, *ways):
    conductor = Conductor(*method)
    for way in ways:
        conductor.call(way)
    return conductor


def all_told(conductor):
    """All that a conductor tells, and what it would take back and ring again, tried and put back by its own means."""
    told = [conductor.tour, conductor.head, conductor.fault, len(conductor), bool(conductor)]
    again = 0
    while outcome(conductor.redo) is None:
        again += 1
        told.append(conductor.tour)
    for _ in range(again):
        conductor.undo()
    return told


class ByHand:
    """A conductor as two lists."""

    def __init__(self, method):
        self.method, self.rung, self.undone = method, [], []

    def step(self, word, way):
        if word == "call":
            if not 0 <= way <= len(self.method[2]):
                return InvalidWay
            if len(self.rung) == 40:
                return TooMany
            before = rows_by_hand(self.tour())
            self.rung.append(way)
            self.undone = []
            return rows_by_hand(self.tour())[len(before):]
        if word == "undo":
            if not self.rung:
                return NothingToUndo
            self.undone.append(self.rung.pop())
        elif word == "redo":
            if not self.undone:
                return NothingToRedo
            self.rung.append(self.undone.pop())
        return None

    def tour(self):
        return self.method + (tuple(self.rung),)


class Conductors(unittest.TestCase):
    def check_told(self, conductor, tour):
        bells, lead, calls, composition = tour
        rows = rows_by_hand(tour)
        self.assertEqual(conductor.tour, tour)
        self.assertIs(is_tour(conductor.tour), True)
        self.assertEqual(conductor.head, heads_by_hand(bells, ways_by_hand(lead, calls), composition)[-1])
        fault = fault_by_hand(rows)
        self.assertEqual(conductor.fault, fault)
        self.assertEqual(len(conductor), len(composition))
        self.assertIs(bool(conductor), len(rows) > 1 and rows[-1] == rows[0] and fault is None)
        return bool(conductor)

    def test_examples(self):
        a = Conductor(3, ((0,), (1,)), ((),))
        self.assertEqual(
            [a.call(0), a.call(1), a.fault, a.head, a.undo(), a.call(0), a.call(0)[-1], bool(a), len(a), a.tour[3]],
            [[(1, 0, 2), (1, 2, 0)], [(2, 1, 0), (2, 1, 0)], (3, 2), (2, 1, 0), None, [(2, 1, 0), (2, 0, 1)], (0, 1, 2),
             True, 3, (0, 0, 0)])

    def test_without_leads(self):
        for bells in range(2, 7):
            conductor = Conductor(bells, ((0,), ()), ())
            self.check_told(conductor, (bells, ((0,), ()), (), ()))
            self.assertEqual([conductor.fault, conductor.head, len(conductor), bool(conductor)],
                             [None, tuple(range(bells)), 0, False])

    def test_all_steps(self):
        dice = random.Random(81)
        true = 0
        for _ in range(120):
            method = some_method(dice, dice.randint(2, 5), 3)
            conductor, other = Conductor(*method), ByHand(method)
            for _ in range(dice.choice((5, 20, 20))):
                word, way = dice.choice(("call", "call", "undo", "redo")), dice.randint(-1, len(method[2]) + 1)
                found = outcome(getattr(conductor, word), *((way,) if word == "call" else ()))
                self.assertEqual(found, other.step(word, way))
                true += self.check_told(conductor, other.tour())
        self.assertGreater(true, 20)

    def test_rows_of_a_call_are_a_new_list(self):
        conductor = Conductor(*METHOD)
        rows = conductor.call(0)
        self.assertIsInstance(rows, list)
        rows.append("more")
        self.assertEqual(conductor.call(1), ring((1, 2, 0), ((0,), ())))
        self.check_told(conductor, METHOD + ((0, 1),))

    def test_forty_leads(self):
        conductor = led(METHOD, *([0, 1] * 20))
        self.check_told(conductor, METHOD + ((0, 1) * 20,))
        kept = all_told(conductor)
        check_limit(self, 40, conductor.call, 0)
        check_limit(self, 40, conductor.call, 1)
        # The way is asked for ahead of the limit.
        for way in ODD_INTEGERS + [2]:
            self.assertIs(outcome(conductor.call, way), InvalidWay)
        self.assertEqual(all_told(conductor), kept)
        conductor.undo()
        self.assertEqual(len(conductor.call(0)), 2)
        self.assertEqual(len(conductor), 40)
        # A call that is refused leaves what can be rung again.
        conductor = led(METHOD, *([0] * 40))
        conductor.undo()
        conductor.redo()
        check_limit(self, 40, conductor.call, 0)
        self.assertIs(outcome(conductor.redo), NothingToRedo)
        self.assertEqual([outcome(conductor.undo) for _ in range(41)], [None] * 40 + [NothingToUndo])
        self.assertEqual([outcome(conductor.redo) for _ in range(41)], [None] * 40 + [NothingToRedo])
        self.check_told(conductor, METHOD + ((0,) * 40,))

    def test_nothing_to_undo_and_nothing_to_redo(self):
        conductor = Conductor(*METHOD)
        self.assertIs(outcome(conductor.undo), NothingToUndo)
        self.assertIs(outcome(conductor.redo), NothingToRedo)
        conductor.call(1)
        self.assertIs(outcome(conductor.redo), NothingToRedo)
        self.assertIsNone(conductor.undo())
        self.assertIs(outcome(conductor.undo), NothingToUndo)
        self.assertIsNone(conductor.redo())
        self.assertIs(outcome(conductor.redo), NothingToRedo)
        self.check_told(conductor, METHOD + ((1,),))

    def test_a_call_behind_an_undo(self):
        conductor = led(METHOD, 0, 1, 0)
        conductor.undo()
        conductor.undo()
        conductor.call(0)
        self.assertIs(outcome(conductor.redo), NothingToRedo)
        conductor.undo()
        conductor.redo()
        self.check_told(conductor, METHOD + ((0, 0),))
        self.assertIs(outcome(conductor.redo), NothingToRedo)

    def test_a_call_that_is_refused_changes_nothing(self):
        conductor = led(METHOD, 0, 1)
        conductor.undo()
        for way in ODD_INTEGERS + [2]:
            self.assertIs(outcome(conductor.call, way), InvalidWay)
        self.assertEqual(all_told(conductor), [METHOD + ((0,),), (1, 2, 0), None, 1, False, METHOD + ((0, 1),)])

    def test_undone_leads_come_again_one_by_one(self):
        conductor = led(METHOD, 0, 1, 1)
        for _ in range(3):
            conductor.undo()
        found = []
        for _ in range(3):
            conductor.redo()
            found.append(conductor.tour[3])
        self.assertEqual(found, [(0,), (0, 1), (0, 1, 1)])

    def test_attempt_returns_what_the_action_returns(self):
        conductor = led(METHOD, 0)
        for value in (None, 0, (), [1], "x", conductor):
            self.assertIs(conductor.attempt(lambda given, value=value: value), value)
        self.assertIs(conductor.attempt(lambda given: given), conductor)
        self.assertEqual(conductor.attempt(lambda given: given.call(1)), [(2, 1, 0), (2, 1, 0)])
        self.check_told(conductor, METHOD + ((0, 1),))
        # What ends well is kept, also what was taken back.
        conductor.attempt(lambda given: given.undo())
        self.check_told(conductor, METHOD + ((0,),))
        self.assertIsNone(conductor.redo())
        self.check_told(conductor, METHOD + ((0, 1),))

    def refused(self, given, error):
        """An action with calls, undos, redos and attempts of its own that ends with an error."""
        given.call(0)
        given.undo()
        given.undo()
        given.call(1)
        given.attempt(lambda inner: inner.call(1))
        with self.assertRaises(Mishap):
            given.attempt(lambda inner: self.fails(inner, Mishap()))
        self.assertEqual(given.tour[3][-2:], (1, 1))
        given.undo()
        raise error

    def fails(self, given, error):
        given.undo()
        given.call(0)
        given.undo()
        raise error

    def test_attempt_that_ends_with_an_error(self):
        errors = (Mishap("own"), Stop(), ValueError("x"), KeyError(1), IndexError(), ZeroDivisionError(), OnceError(),
                  TooMany(40), StopIteration(), RuntimeError(), KeyboardInterrupt(), AssertionError())
        for error in errors:
            for undone in range(4):
                conductor = led(METHOD, 0, 1, 0, 1, 1)
                for _ in range(undone):
                    conductor.undo()
                kept = all_told(conductor)
                self.assertEqual(len(kept), 5 + undone)
                with self.assertRaises(type(error)) as caught:
                    conductor.attempt(lambda given: self.refused(given, error))
                self.assertIs(caught.exception, error)
                self.assertEqual(all_told(conductor), kept)

    def test_attempt_with_an_error_of_the_conductor(self):
        conductor = led(METHOD, 0)
        conductor.undo()
        kept = all_told(conductor)
        for action, error in ((lambda given: (given.call(1), given.call(2)), InvalidWay),
                              (lambda given: (given.call(1), given.undo(), given.undo()), NothingToUndo),
                              (lambda given: (given.redo(), given.redo()), NothingToRedo),
                              (lambda given: [given.call(0) for _ in range(41)], TooMany)):
            self.assertIs(outcome(conductor.attempt, action), error)
            self.assertEqual(all_told(conductor), kept)

    def test_attempts_within_attempts(self):
        conductor = led(METHOD, 0)

        def outer(given):
            given.call(1)
            self.assertIs(outcome(given.attempt, lambda inner: (inner.call(0), inner.call(7))), InvalidWay)
            self.check_told(given, METHOD + ((0, 1),))
            given.attempt(lambda inner: inner.attempt(lambda inmost: inmost.call(0)))
            return len(given)

        self.assertEqual(conductor.attempt(outer), 3)
        self.check_told(conductor, METHOD + ((0, 1, 0),))
        with self.assertRaises(Mishap):
            conductor.attempt(self.refused_behind_an_attempt)
        self.check_told(conductor, METHOD + ((0, 1, 0),))

    def refused_behind_an_attempt(self, given):
        # What an attempt of its own kept goes, too, when the outer one ends with an error.
        given.attempt(lambda inner: inner.call(1))
        self.check_told(given, METHOD + ((0, 1, 0, 1),))
        raise Mishap()

    def test_attempt_with_what_is_no_function(self):
        conductor = led(METHOD, 0, 1)
        conductor.undo()
        kept = all_told(conductor)
        for action in (None, 3, "call"):
            with self.assertRaises(TypeError):
                conductor.attempt(action)
            self.assertEqual(all_told(conductor), kept)

    def test_equal_conductors(self):
        first, second = led(METHOD, 0, 1), led(METHOD, 0, 1)
        self.assertTrue(first == second and not first != second and first == first)
        second.undo()
        self.assertTrue(first != second and not first == second)
        # What can be rung again does not count.
        self.assertTrue(second == led(METHOD, 0))
        second.redo()
        self.assertTrue(first == second)
        self.assertEqual(led(METHOD), led(METHOD))
        # The same rows, but not the same tours.
        self.assertNotEqual(led((3, ((0,), (1,)), ((1,),)), 0), led((3, ((0,), (1,)), ((1,),)), 1))
        self.assertNotEqual(led((3, ((0,),), ()), 0), led((4, ((0,),), ()), 0))
        self.assertNotEqual(led((3, ((0,),), ()), 0), led((3, ((0,),), ((),)), 0))
        self.assertNotEqual(led((3, ((0,), ()), ()), 0), led((3, ((0,), (1,)), ()), 0))

    def test_nothing_else_is_equal(self):
        conductor = led(METHOD, 0, 1)
        for value in ODD_VALUES + [conductor.tour, list(conductor.tour), 2, 0, (), object(), Conductor]:
            self.assertTrue(conductor != value and not conductor == value)
            self.assertFalse(value == conductor)
        self.assertNotIn(conductor, [conductor.tour])

        class Always:
            def __eq__(self, other):
                return True

        self.assertIs(conductor == Always(), False)

    def test_iterating_raises_an_error(self):
        for conductor in (Conductor(*METHOD), led(METHOD, 0, 0, 0)):
            for function in (iter, list, tuple, sorted, lambda given: [row for row in given], lambda given: 0 in given):
                with self.assertRaises(TypeError):
                    function(conductor)

    def test_comes_round_truly(self):
        self.assertIs(bool(led(METHOD, 0, 0, 0)), True)
        self.assertIs(bool(led(METHOD, 0, 0)), False)
        # Home, but not truly.
        conductor = led(METHOD, 1, 1)
        self.assertEqual([conductor.head, bool(conductor), conductor.fault], [(0, 1, 2), False, (1, 0)])
        self.assertIs(bool(led(METHOD, *([0] * 6))), False)
        self.assertIs(bool(led((2, ((),), ()), 0)), True)
        self.assertIs(bool(led((2, ((),), ()), 0, 0)), False)

    def test_properties_are_only_read(self):
        for name in ("tour", "head", "fault"):
            with self.assertRaises(AttributeError):
                setattr(Conductor(*METHOD), name, None)

    def test_errors(self):
        bells, leads, calls = (ODD_BELLS, InvalidBells), (BAD_LEADS, InvalidLead), (BAD_CALLS, InvalidCalls)
        check_errors(self, Conductor, (4, ((0,), (1,)), ((), (0,))), [bells, leads, calls])
        self.assertIs(outcome(Conductor, 3, ((2,),), ()), InvalidLead)
        self.assertIs(outcome(Conductor, 3, ((1,),), ((2,),)), InvalidCalls)


if __name__ == "__main__":
    unittest.main()
