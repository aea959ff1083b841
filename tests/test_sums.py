"""Sums: [H4], [H5], and what [H6] tells of them."""

import math
import random
import unittest
from fractions import Fraction

from tests.model import bits_of_all, some_states, states_of, written
from tests.support import (
    Checks, FAR_INTEGERS, ODD_TUPLES, ODD_VALUES, drawn_tables, shaped_tables, small_tables,
)
from tests.test_means import some_letters
from unpassed.errors import NoLetter, NoState
from unpassed.means import cheapest, dearest
from unpassed.sums import cheapest_text, count_within, fewest_bits, most_bits
from unpassed.tables import letters_of

SMALL = small_tables()[::5] + [table for table in shaped_tables() if len(table) <= 6]
MIDDLE = [table for table in shaped_tables() if 6 < len(table) <= 12] + drawn_tables(171, 12, (6, 7, 9, 12, 17))
GREAT = [table for table in shaped_tables() + drawn_tables(172, 4, (63, 64)) if len(table) > 12]
HUGE = 10 ** 30
FUNCTIONS = ((fewest_bits, (3,)), (most_bits, (3,)), (cheapest_text, (3,)), (count_within, (3, 5)))


class BitsTest(unittest.TestCase, Checks):
    def test_as_writing_tells(self):
        for table in SMALL + MIDDLE:
            for letters in some_letters(table):
                for state in some_states(table)[::2]:
                    for many in (0, 1, 2, 5):
                        bits = bits_of_all(table, letters, state, many)
                        named = {"table": table, "letters": letters, "state": state, "many": many}
                        self.check_call(min(bits), fewest_bits, **named)
                        self.check_call(max(bits), most_bits, **named)

    def test_great_tables(self):
        for table in GREAT[::3]:
            letters = letters_of(table)[:4]
            for state in some_states(table)[::3]:
                bits = bits_of_all(table, letters, state, 9)
                self.check_same(fewest_bits(table, letters, state, 9), min(bits))
                self.check_same(most_bits(table, letters, state, 9), max(bits))

    def test_beside_means(self):
        for table in SMALL + MIDDLE + GREAT[::2]:
            for letters in some_letters(table):
                for many in (1, 7, 40, 2000, 10 ** 9 + 1, HUGE):
                    for function, mean in ((fewest_bits, cheapest), (most_bits, dearest)):
                        self.check_beside(table, many, function, many * Fraction(*mean(table, letters)), letters)

    def check_beside(self, table, many, function, share, letters):
        """From the first state at most n times the mean, from the last one at least; both within one bit of it."""
        told = [self.check_quick(function, table, letters, state, many) for state in some_states(table)]
        self.assertEqual(told, sorted(told))
        self.assertTrue(share - 1 <= told[0] <= share)
        self.assertTrue(share <= told[-1] <= share + 1)
        self.assertLessEqual(told[-1] - told[0], 1)

    def test_huge_numbers_go_round(self):
        # 0 goes between 4 and 6 for one bit; so twice as many letters more are as many bits more.
        table = (0, 1, 0, 0)
        for state in range(4, 8):
            for many in range(6):
                self.check_same(fewest_bits(table, (0, 1), state, HUGE - 6 + many),
                                fewest_bits(table, (0, 1), state, many) + (HUGE - 6) // 2)
            self.check_same(most_bits(table, (0, 1), state, HUGE), 2 * HUGE)

    def test_edges(self):
        for table in ((9,), (9,) * 64):
            for state in (len(table), 2 * len(table) - 1):
                for function in (fewest_bits, most_bits):
                    self.check_same([function(table, (9,), state, many) for many in (0, 1, 63)][:2], [0, 0])
                self.check_same(fewest_bits(table, (9,), state, HUGE), 0)
        lone = (0,) * 63 + (1,)
        self.check_same(most_bits(lone, (0, 1), 64, HUGE), 6 * HUGE)
        self.check_same(most_bits(lone, (1,), 127, 1), 6)
        self.check_same(fewest_bits(lone, (0,), 64, 63 * 10 ** 20), 10 ** 20)


class CheapestTextTest(unittest.TestCase, Checks):
    def check_text(self, table, letters, state, many):
        text = self.check_quick(cheapest_text, table, letters, state, many)
        self.check_same((type(text), len(text)), (tuple, many))
        self.assertEqual({type(letter) for letter in text} - {int}, set())
        self.assertLessEqual(set(text), set(letters))
        bits, _ = written(table, state, text)
        self.check_same(len(bits), fewest_bits(table, letters, state, many))
        return text

    def test_it_costs_fewest_bits(self):
        for table in SMALL + MIDDLE:
            for letters in some_letters(table):
                for state in some_states(table)[::2]:
                    for many in (0, 1, 2, 9, 40):
                        text = self.check_text(table, letters, state, many)
                        self.check_call(text, cheapest_text, table=table, letters=letters, state=state, many=many)

    def test_longest(self):
        for table in GREAT[::3]:
            for state in (len(table), 2 * len(table) - 1):
                self.check_text(table, letters_of(table), state, 2000)
        self.check_same(cheapest_text((9,), (9,), 1, 2000), (9,) * 2000)
        self.check_same(cheapest_text((0, 1), (1,), 3, 3), (1, 1, 1))


class CountTest(unittest.TestCase, Checks):
    def check_counts(self, table, letters, state, many, step=1):
        found = bits_of_all(table, letters, state, many)
        for bits in range(0, max(found) + 3, step):
            wanted = sum([number for own, number in found.items() if own <= bits])
            self.check_same(count_within(table, letters, state, many, bits), wanted)

    def test_as_writing_tells(self):
        for table in SMALL + MIDDLE:
            for letters in some_letters(table):
                for state in some_states(table)[::3]:
                    for many in (0, 1, 2, 6):
                        self.check_counts(table, letters, state, many)

    def test_short_and_long(self):
        for table in SMALL[::6] + MIDDLE[::5]:
            self.check_counts(table, letters_of(table), len(table), 40, step=11)
            self.check_counts(table, letters_of(table)[:1], 2 * len(table) - 1, 40, step=7)

    def test_by_name(self):
        self.check_call(3, count_within, table=(0, 1, 0, 0), letters=(0, 1), state=4, many=2, bits=2)
        self.check_call(0, count_within, table=(0, 1, 0, 0), letters=(1,), state=7, many=1, bits=1)

    def test_between_fewest_and_most(self):
        draw = random.Random(173)
        for table in MIDDLE + GREAT[::2]:
            letters = letters_of(table)[:5]
            state = draw.choice(states_of(table))
            many = draw.choice((1, 7, 40))
            low, high = fewest_bits(table, letters, state, many), most_bits(table, letters, state, many)
            every = len(letters) ** many
            self.check_same(count_within(table, letters, state, many, high), every)
            self.check_same(count_within(table, letters, state, many, high + 1), every)
            self.assertGreater(count_within(table, letters, state, many, low), 0)
            if low > 0:
                self.check_same(count_within(table, letters, state, many, low - 1), 0)
            if low < high:
                self.assertLess(count_within(table, letters, state, many, high - 1), every)

    def test_greater_states_have_fewer(self):
        for table in SMALL[::3] + MIDDLE[::3]:
            letters = letters_of(table)
            for bits in range(8):
                told = [count_within(table, letters, state, 4, bits) for state in states_of(table)]
                self.assertEqual(told, sorted(told, reverse=True))

    def test_edges(self):
        for bits in (0, 1, HUGE, 10 ** 399):
            self.check_same(count_within((9,), (9,), 1, 40, bits), 1)
            self.check_same(count_within((9,) * 64, (9,), 127, 40, bits), 1)
            self.check_same(count_within((0, 1, 0, 0), (0, 1), 6, 0, bits), 1)
        self.check_same(count_within((0, 1), (0, 1), 3, 40, 39), 0)
        self.check_same(count_within((0, 1), (0, 1), 3, 40, 40), 2 ** 40)

    def test_greatest(self):
        letters = tuple(range(26))
        for table in (letters + (25,) * 38, letters * 2 + tuple(range(12))):
            for bits in (240, 10 ** 399):
                self.check_same(self.check_quick(count_within, table, letters, 127, 40, bits), 26 ** 40)
            told = self.check_quick(count_within, table, letters, 127, 40, 30)
            wanted = 0
            for letter in letters:
                more, reached = written(table, 127, (letter,))
                wanted += count_within(table, letters, reached, 39, 30 - len(more))
            self.check_same(told, wanted)

    def test_one_bit_each(self):
        for many in (1, 13, 40):
            self.check_same(count_within((0, 1, 2, 3), (0, 2, 3), 5, many, 2 * many), 3 ** many)
            self.check_same(count_within((0, 1, 2, 3), (0, 2, 3), 5, many, 2 * many - 1), 0)
        # Of two letters with one bit and with two, as often as one chooses those with two.
        table = (0, 0, 1, 2)
        for bits in range(40, 81):
            wanted = sum([math.comb(40, twos) * 2 ** twos for twos in range(bits - 40 + 1)])
            self.check_same(count_within(table, (0, 1, 2), 4, 40, bits), wanted)


class ErrorsTest(unittest.TestCase, Checks):
    def test_no_state(self):
        for function, more in FUNCTIONS:
            for value in ODD_VALUES + ODD_TUPLES + FAR_INTEGERS + (0, 3, 8, 4 + 10 ** 20):
                for letters in ((0, 1), (0, 2), (5,)):
                    self.check_raises(NoState, {"given": value}, function, (0, 1, 0, 0), letters, value, *more)
            for table in ((9,), (9,) * 64, (0, 1, 2)):
                for state in (len(table) - 1, 2 * len(table)):
                    self.check_raises(NoState, {"given": state}, function, table, (9,), state, *more)
            self.check_raises(NoState, {"given": True}, function, (9,), (9,), True, *more)

    def test_no_letter(self):
        for function, more in FUNCTIONS:
            for letters, given in (((0, 2, 3), 2), ((2,), 2), ((0, 1, 25), 25)):
                self.check_raises(NoLetter, {"given": given}, function, (0, 1, 0, 0), letters, 7, *more)
                nothing = [0 for _ in more]
                self.check_raises(NoLetter, {"given": given}, function, (0, 1, 0, 0), letters, 4, *nothing)

    def test_by_name(self):
        for function, more in FUNCTIONS:
            named = dict(zip(("table", "letters", "state", "many", "bits"), ((0, 1), (0, 2), 9, *more)))
            self.check_raises(NoState, {"given": 9}, function, **named)
            named["state"] = 2
            self.check_raises(NoLetter, {"given": 2}, function, **named)


if __name__ == "__main__":
    unittest.main()
