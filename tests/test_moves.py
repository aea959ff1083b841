"""Moves: [F4], and what [F6] and [A2] (d) tell of letters with a comb behind them."""

import unittest

from tests.model import states_left, written
from tests.support import Checks, drawn_tables, drawn_texts, shaped_tables, small_tables
from unpassed.combs import comb, is_comb
from unpassed.costs import cost
from unpassed.errors import Unfit
from unpassed.moves import combed, moves
from unpassed.starts import meeting_text
from unpassed.tables import letters_of

TABLES = [table for table in small_tables()[::2] + shaped_tables() + drawn_tables(141, 30, (6, 8, 12, 16))
          if len(table) <= 16]


def comb_of(table):
    """A comb of a table of one lot, of any size: two states that are left meet, again and again."""
    text = ()
    while len(states_left(table, text)) > 1:
        text += meeting_text(table, *states_left(table, text)[:2])
    return text


def great_tables():
    """Great tables and one cell alone, each with a comb."""
    told = [((0,) * 63 + (1,), (1,)), ((0, 1) * 32, (0,)), ((9,) * 64, ()), (tuple(range(26)), (25, 3)), ((25,), ())]
    tables = (tuple(range(26)) * 2 + tuple(range(12)), (0,) * 33 + (1,) * 31)
    return told + [(table, comb_of(table)) for table in tables]


def some_combs(table):
    text = comb(table)
    ahead, behind = drawn_texts(142, table, (2, 5))
    return text, ahead + text, text + behind, ahead + text + behind


class MovesTest(unittest.TestCase, Checks):
    def test_as_writing_tells_from_each_state_left(self):
        for table in TABLES:
            for text in some_combs(table):
                self.check_moves(table, text)

    def check_moves(self, table, text):
        for state in states_left(table, text):
            wanted = []
            for letter in letters_of(table):
                bits, reached = written(table, state, (letter,) + text)
                self.assertEqual(reached, state)
                wanted.append((letter, len(bits)))
            self.check_same(moves(table, text), tuple(wanted))
        self.check_call(tuple(wanted), moves, table=table, text=text)

    def test_a_letter_costs_it_for_ever(self):
        for table in TABLES:
            for text in some_combs(table)[::3]:
                for letter, bits in moves(table, text):
                    self.check_same(cost(table, (letter,) + text), (bits, 1))

    def test_greatest_tables(self):
        for table, text in great_tables():
            self.check_same(is_comb(table, text), True)
            self.check_quick(moves, table, text)
            self.check_moves(table, text)

    def test_longest_combs(self):
        for table in ((0, 0, 1), (0, 1, 0, 1), (9,) * 16, (0, 1) * 32):
            text = drawn_texts(143, table, (1999,))[0] + table[-1:]
            self.check_moves(table, text)
            self.check_raises(Unfit, {}, moves, table, text + table[:1])

    def test_no_combs(self):
        for table, texts in (
            ((0, 0, 1), ((), (0,))), ((0, 1, 0, 1), ((),)), ((0,) * 63 + (1,), ((0,) * 2000, ())),
            ((0, 0, 1, 0, 1), ((0,), (1, 0), (1, 0, 0), ())),
        ):
            for text in texts:
                self.check_raises(Unfit, {}, moves, table, text)
                self.check_raises(Unfit, {}, moves, table=table, text=text)
                self.check_raises(Unfit, {}, combed, table, text, ())
                self.check_raises(Unfit, {}, combed, table=table, text=text, letters=(table[0],))


class CombedTest(unittest.TestCase, Checks):
    def test_as_writing_tells_from_each_state_left(self):
        for table in TABLES:
            for text in some_combs(table)[:2]:
                for letters in drawn_texts(144, table, (0, 1, 2, 9)):
                    self.check_combed(table, text, letters)

    def check_combed(self, table, text, letters):
        line = tuple([item for letter in letters for item in (letter,) + text])
        for state in states_left(table, text):
            bits, reached = written(table, state, line)
            self.assertEqual(reached, state)
            self.check_same(combed(table, text, letters), len(bits))
        self.check_call(len(bits), combed, table=table, text=text, letters=letters)

    def test_a_sum_of_moves(self):
        for table in TABLES:
            text = comb(table)
            told = dict(moves(table, text))
            for letters in drawn_texts(145, table, (3, 50)):
                self.check_same(combed(table, text, letters), sum([told[letter] for letter in letters]))

    def test_longest_texts(self):
        for table, text in great_tables():
            letters = drawn_texts(146, table, (2000,))[0]
            told = dict(moves(table, text))
            self.check_same(self.check_quick(combed, table, text, letters), sum([told[letter] for letter in letters]))

    def test_more_letters_than_a_text_has(self):
        self.check_same(combed((0, 0, 1), (1,), (1,) * 2001), 8004)

    def test_edges(self):
        self.check_same(combed((9,), (), ()), 0)
        self.check_same(combed((9,) * 64, (), (9,) * 2000), 0)
        self.check_same(combed((0, 1) * 32, (1,), (0, 1, 1)), 6)


if __name__ == "__main__":
    unittest.main()
