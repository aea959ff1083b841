"""The bounds and the error classes of the interface."""

import copy
import inspect
import pickle
import unittest

from tests.support import Checks, FAR_INTEGERS, ODD_TUPLES, ODD_VALUES, same
from unpassed import bounds, errors

BOUNDS = {
    "MAX_CELLS": 64, "MAX_LETTER": 25, "MAX_TEXT": 2000, "MAX_BITS": 12000, "MAX_TIMES": 10 ** 30,
    "MAX_COMBED": 16, "MAX_JOINT": 2000, "MAX_SHORT": 40, "MAX_TABLES": 2000, "MAX_BOOK": 8, "MAX_NAME": 8,
    "MAX_NAMES": 6, "BATCH": 12, "MAX_EDITS": 40,
}

KEPT = {
    "Unfit": None, "BadText": None, "BadTable": "error", "NoLetter": "given", "NoState": "given", "Short": "done",
    "TooMany": "limit", "Endless": "paper", "NoName": "given", "BadBatch": None, "Rejected": "index",
    "TooManyEdits": None, "NothingToUndo": None, "NothingToRedo": None, "NoVersion": "given",
}


class BoundsTest(unittest.TestCase, Checks):
    def test_bounds(self):
        there = {name: value for name, value in vars(bounds).items() if not name.startswith("_")}
        self.assertEqual(there, BOUNDS)
        for value in there.values():
            self.assertIs(type(value), int)


class ErrorsTest(unittest.TestCase, Checks):
    def test_all_are_there(self):
        there = {name for name, value in vars(errors).items() if inspect.isclass(value)}
        self.assertEqual(there, {"RingError", *KEPT})
        self.assertEqual(errors.RingError.__bases__, (ValueError,))

    def test_each_is_directly_under_ring_error(self):
        for name in KEPT:
            kind = getattr(errors, name)
            self.assertEqual(kind.__bases__, (errors.RingError,), name)
            self.assertEqual(kind.__module__, "unpassed.errors")
            self.assertEqual(kind.__name__, name)

    def test_those_without_arguments(self):
        for name in [name for name, kept in KEPT.items() if kept is None]:
            self.check_same(vars(getattr(errors, name)()), {})

    def test_what_they_are_made_of_is_kept(self):
        for name, kept in KEPT.items():
            if kept is None:
                continue
            kind = getattr(errors, name)
            for value in ODD_VALUES + ODD_TUPLES + FAR_INTEGERS:
                for error in (kind(value), kind(**{kept: value})):
                    self.assertIs(getattr(error, kept), value)
                    self.assertEqual(list(vars(error)), [kept])

    def test_they_can_be_raised_shown_and_copied(self):
        for name, kept in KEPT.items():
            kind = getattr(errors, name)
            error = kind() if kept is None else kind((1, "a"))
            with self.assertRaises(errors.RingError):
                raise error
            self.assertIsInstance(str(error) + repr(error), str)
            self.assertTrue(same(copy.deepcopy(error), error))
            self.assertTrue(same(pickle.loads(pickle.dumps(error)), error))

    def test_as_many_arguments_as_told(self):
        for name, kept in KEPT.items():
            if kept is not None:
                with self.assertRaises(TypeError):
                    getattr(errors, name)()
                with self.assertRaises(TypeError):
                    getattr(errors, name)(1, 2)


if __name__ == "__main__":
    unittest.main()
