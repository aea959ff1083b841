"""Spreads: [I1], [I2]."""

import unittest

from tests.counts import GREAT, SMALL, drawn_counts
from tests.model import even_table
from tests.support import Checks
from unpassed.spreads import evenly, in_blocks
from unpassed.tables import counts_of, table_error

ALL = SMALL + GREAT + tuple(drawn_counts(181, 60, 64))


class SpreadsTest(unittest.TestCase, Checks):
    def test_in_blocks(self):
        for counts in ALL:
            table = in_blocks(counts)
            self.check_call(table, in_blocks, counts=counts)
            self.check_same((table_error(table), counts_of(table)), (None, counts))
            self.assertEqual(list(table), sorted(table))

    def test_evenly(self):
        for counts in ALL:
            self.check_call(even_table(counts), evenly, counts=counts)
            self.check_same(counts_of(evenly(counts)), counts)

    def test_equal_places_take_the_lesser_letter_first(self):
        self.check_same(evenly(((2, 2), (3, 2), (9, 2))), (2, 3, 9, 2, 3, 9))
        self.check_same(evenly(((0, 1), (1, 3))), (1, 0, 1, 1))
        self.check_same(evenly(((0, 3), (1, 1), (2, 3))), (0, 2, 0, 1, 2, 0, 2))
        self.check_same(evenly(((0, 32), (1, 32))), (0, 1) * 32)

    def test_edges(self):
        for function in (in_blocks, evenly):
            self.check_same(function(((25, 1),)), (25,))
            self.check_same(function(((0, 64),)), (0,) * 64)
            self.check_same(function(tuple([(letter, 1) for letter in range(26)])), tuple(range(26)))
        self.check_same(in_blocks(((0, 63), (1, 1))), (0,) * 63 + (1,))
        self.check_same(evenly(((0, 63), (1, 1))), (0,) * 32 + (1,) + (0,) * 31)
        self.check_same(evenly(((0, 1), (1, 63))), (1,) * 31 + (0,) + (1,) * 32)


if __name__ == "__main__":
    unittest.main()
