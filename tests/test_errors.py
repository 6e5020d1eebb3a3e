"""Promise [82]: the error classes, and their attributes."""

import inspect
import unittest

from rungonce import errors

NAMES = """InvalidBells InvalidRow InvalidChange InvalidLead InvalidWays InvalidTable InvalidChoice InvalidCalls
InvalidComposition NotOne TooMany InvalidPlaces InvalidNumber InvalidText InvalidWay InvalidNumbers NotTwo InvalidTold
InvalidIndex InvalidLeading InvalidSheet InvalidLot InvalidStand NotPaired NotOneBlock InvalidPair InvalidCourse
UnlikeEnds InvalidMany InvalidPaths InvalidBell InvalidRenaming InvalidSlips InvalidLeads InvalidRows InvalidHeard
InvalidTour InvalidPairs NothingToUndo NothingToRedo""".split()


class ErrorClasses(unittest.TestCase):
    def test_base(self):
        self.assertEqual(errors.OnceError.__bases__, (ValueError,))

    def test_all_are_direct_subclasses_defined_here(self):
        for name in NAMES:
            found = getattr(errors, name)
            self.assertEqual(found.__bases__, (errors.OnceError,), name)
            self.assertEqual((found.__name__, found.__module__), (name, "rungonce.errors"))

    def test_there_are_no_others(self):
        found = [name for name, value in vars(errors).items() if inspect.isclass(value)]
        self.assertEqual(sorted(found), sorted(NAMES + ["OnceError"]))

    def test_they_are_raised_and_caught_by_name(self):
        for name in NAMES:
            found = getattr(errors, name)
            made = found(8) if name in ("TooMany", "InvalidText") else found()
            with self.assertRaises(errors.OnceError):
                raise made

    def test_limit_is_what_it_was_made_with(self):
        for limit in (8, 0, -1, 10 ** 119, 60):
            self.assertEqual(errors.TooMany(limit).limit, limit)
        self.assertFalse(hasattr(errors.TooMany(8), "at"))

    def test_at_is_what_it_was_made_with(self):
        for at in (0, 2, 4000, 10 ** 119):
            self.assertEqual(errors.InvalidText(at).at, at)
        self.assertFalse(hasattr(errors.InvalidText(8), "limit"))

    def test_attributes_may_be_any_value(self):
        for value in (None, "x", (1, [2]), True):
            self.assertIs(errors.TooMany(value).limit, value)
            self.assertIs(errors.InvalidText(value).at, value)


if __name__ == "__main__":
    unittest.main()
