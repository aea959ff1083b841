"""What fair bits read: [K1] to [K5]."""

import random
import unittest
from fractions import Fraction

from tests.model import all_texts, letters_before, read_steps, some_states, states_of, whole_written, written
from tests.support import (
    Checks, FAR_INTEGERS, ODD_TUPLES, ODD_VALUES, drawn_tables, shaped_tables, small_tables,
)
from unpassed.errors import NoState, TooMany, Unfit
from unpassed.lots import lots, rank
from unpassed.shares import reader_step, shares, state_shares, whole_of
from unpassed.tables import letters_of

ALL = small_tables()[::2] + shaped_tables() + drawn_tables(241, 60, (2, 3, 6, 7, 9, 12, 15, 16, 17, 33, 63, 64))
COMBED = [table for table in ALL if len(table) <= 16 and rank(table) == 1]


def pair_of(fraction):
    return fraction.numerator, fraction.denominator


class ReaderStepTest(unittest.TestCase, Checks):
    def test_as_tossing_tells(self):
        for table in ALL:
            told = [sorted(read_steps(table, state).items()) for state in some_states(table)]
            steps = reader_step(table)
            wanted = [tuple([(state, pair_of(share)) for state, share in pairs]) for pairs in told]
            self.check_same([steps[state - len(table)] for state in some_states(table)], wanted)

    def test_as_writing_tells(self):
        for table in ALL:
            wanted = [tuple(sorted([(ahead, (1, 2 ** len(bits))) for _, bits, ahead in pairs]))
                      for pairs in letters_before(table).values()]
            self.check_call(tuple(wanted), reader_step, table=table)

    def test_shares_of_each_item_are_a_whole(self):
        for table in ALL:
            steps = reader_step(table)
            self.assertEqual(len(steps), len(table))
            for pairs in steps:
                self.assertEqual(sum([Fraction(*share) for _, share in pairs]), 1)

    def test_within_lots(self):
        for table in ALL:
            steps = reader_step(table)
            for lot in lots(table):
                found = {state for own in lot for state, _ in steps[own - len(table)]}
                self.assertEqual(found, set(lot))

    def test_edges(self):
        self.check_same(reader_step((9,)), (((1, (1, 1)),),))
        self.check_same(reader_step((9,) * 64), tuple([((state, (1, 1)),) for state in range(64, 128)]))
        lone = self.check_quick(reader_step, (0,) * 63 + (1,))
        self.check_same(lone[63], tuple([(state, (1, 64)) for state in range(64, 128)]))


class LastingTest(unittest.TestCase, Checks):
    def check_lasting(self, table):
        told = state_shares(table)
        self.check_call(told, state_shares, table=table)
        own = [Fraction(*pair) for pair in told]
        self.check_same([pair_of(fraction) for fraction in own], list(told))
        self.assertEqual((len(told), sum(own)), (len(table), 1))
        self.assertGreater(min(own), 0)
        # One row alone does this, as there is one lot.
        come = [Fraction(0)] * len(table)
        for fraction, state in zip(own, states_of(table)):
            for reached, share in read_steps(table, state).items():
                come[reached - len(table)] += fraction * share
        self.assertEqual(come, own)
        wanted = [(letter, sum([own[cell] for cell in range(len(table)) if table[cell] == letter]))
                  for letter in letters_of(table)]
        self.check_call(tuple([(letter, pair_of(part)) for letter, part in wanted]), shares, table=table)

    def test_what_comes_is_what_is_there(self):
        for table in COMBED:
            self.check_lasting(table)

    def test_sixteen_cells(self):
        draw = random.Random(242)
        tables = [(0,) * 15 + (1,), (1,) + (0,) * 15, tuple(range(16)), tuple(range(15)) + (0,), (0,) * 9 + (1,) * 7]
        tables += [tuple([draw.choice((0, 1, 2)) for _ in range(16)]) for _ in range(12)]
        for table in tables:
            if rank(table) == 1:
                self.check_quick(state_shares, table)
                self.check_quick(shares, table)
                self.check_lasting(table)

    def test_edges(self):
        self.check_same((state_shares((7,)), shares((7,))), (((1, 1),), ((7, (1, 1)),)))
        self.check_same(state_shares(tuple(range(16))), ((1, 16),) * 16)
        self.check_same(shares(tuple(range(25, 9, -1))), tuple([(letter, (1, 16)) for letter in range(10, 26)]))

    def test_lots(self):
        for table in [table for table in ALL if len(table) <= 16 and rank(table) > 1] + [(0, 0), (0, 1) * 8, (3,) * 16]:
            for function in (state_shares, shares):
                self.check_raises(Unfit, {}, function, table)
                self.check_raises(Unfit, {}, function, table=table)

    def test_too_many_cells_are_told_first(self):
        for table in ((0, 1) * 8 + (2,), (0,) * 17, (0, 1) * 32, (0,) * 63 + (1,), (5,) * 64, tuple(range(17))):
            for function in (state_shares, shares):
                self.check_raises(TooMany, {"limit": 16}, function, table)
                self.check_raises(TooMany, {"limit": 16}, function, table=table)


class WholeTest(unittest.TestCase, Checks):
    def test_as_writing_tells(self):
        for table in ALL:
            if len(table) <= 17:
                for state in some_states(table)[::2]:
                    for many in (0, 1, 2, 5):
                        wanted = pair_of(Fraction(whole_written(table, state, many)))
                        self.check_call(wanted, whole_of, table=table, state=state, many=many)

    def test_by_texts(self):
        for table in small_tables()[::20]:
            for state in states_of(table):
                whole = sum([Fraction(1, 2 ** len(written(table, state, text)[0]))
                             for text in all_texts(table, 3) if len(text) == 3])
                self.check_same(whole_of(table, state, 3), pair_of(Fraction(whole)))

    def test_all_states_together(self):
        for table in ALL:
            for many in (0, 1, 3, 40):
                told = [Fraction(*whole_of(table, state, many)) for state in states_of(table)][:65]
                self.assertEqual(sum(told), len(table))
                # Bits from two starts differ by one at most, so no start has less than half as much as another one.
                self.assertLessEqual(max(told), 2 * min(told))
                self.assertGreaterEqual(min(told), Fraction(1, 2))

    def test_greatest(self):
        for table in (tuple(range(26)) + (25,) * 38, (0,) * 63 + (1,), (0, 1) * 32, (9,) * 64):
            for state in (64, 127):
                above, below = self.check_quick(whole_of, table, state, 40)
                self.check_same((above, below), pair_of(Fraction(above, below)))
        self.check_same(whole_of((0, 1) * 32, 77, 40), (1, 1))
        self.check_same(whole_of((9,) * 64, 127, 40), (1, 1))

    def test_no_state(self):
        for value in ODD_VALUES + ODD_TUPLES + FAR_INTEGERS + (0, 2, 6):
            for many in (0, 2):
                self.check_raises(NoState, {"given": value}, whole_of, (0, 1, 0), value, many)
        self.check_raises(NoState, {"given": True}, whole_of, table=(7,), state=True, many=1)


class LawsTest(unittest.TestCase, Checks):
    def test_a_text_has_the_share_of_its_bits(self):
        # Reading goes letter by letter, so the shares of the steps of a text, from last to first, make that of the text.
        for table in COMBED[::9]:
            steps = {state: dict(pairs) for state, pairs in zip(states_of(table), reader_step(table))}
            for state in states_of(table):
                for text in all_texts(table, 2):
                    bits, _ = written(table, state, text)
                    share, at = Fraction(1), state
                    for letter in text:
                        _, reached = written(table, at, (letter,))
                        share *= Fraction(*steps[reached][at])
                        at = reached
                    self.assertEqual(share, Fraction(1, 2 ** len(bits)))


if __name__ == "__main__":
    unittest.main()
