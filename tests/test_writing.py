"""Writing: [B1], [B2], and [A2] (b) and [B6] as far as they tell of it."""

import unittest

from tests.model import some_states, states_of, written
from tests.support import (
    Checks, FAR_INTEGERS, ODD_TUPLES, ODD_VALUES, drawn_tables, drawn_texts, shaped_tables, small_tables,
)
from unpassed.errors import NoLetter, NoState
from unpassed.tables import letters_of
from unpassed.writing import bit_count, pack, write

TABLES = small_tables() + shaped_tables() + drawn_tables(11, 40, (2, 3, 4, 5, 6, 7, 8, 9, 10, 11, 12, 31, 63, 64))


class WriteTest(unittest.TestCase, Checks):
    def test_as_the_document_tells(self):
        for table in TABLES:
            for text in drawn_texts(12, table, (0, 1, 2, 3, 12)):
                for state in some_states(table):
                    wanted = written(table, state, text)
                    self.check_call(wanted, write, table=table, state=state, text=text)
                    self.check_call(len(wanted[0]), bit_count, table=table, state=state, text=text)

    def test_one_letter_from_each_state(self):
        for table in shaped_tables() + drawn_tables(13, 20, (12, 40, 64)):
            for letter in letters_of(table):
                for state in states_of(table):
                    bits, reached = write(table, state, (letter,))
                    self.check_same((bits, reached), written(table, state, (letter,)))
                    self.assertLessEqual(len(bits), 6)
                    self.assertIn(reached, states_of(table))
                    self.assertEqual(table[reached - len(table)], letter)

    def test_long_texts(self):
        for table in shaped_tables():
            for text in drawn_texts(14, table, (500, 1999, 2000)):
                for state in (len(table), 2 * len(table) - 1):
                    wanted = written(table, state, text)
                    self.check_same(write(table, state, text), wanted)
                    self.check_same(bit_count(table, state, text), len(wanted[0]))

    def test_most_bits_of_all(self):
        table = (0,) + (1,) * 63
        self.check_same(write(table, 64, (0,) * 2000), ((0,) * 12000, 64))
        self.check_same(bit_count(table, 127, (0,) * 2000), 12000)

    def test_a_letter_alone_costs_nothing(self):
        for many in (1, 2, 3, 63, 64):
            for state in (many, 2 * many - 1):
                self.check_same(write((25,) * many, state, (25,) * 2000), ((), state))

    def test_no_text_leaves_the_state(self):
        for table in shaped_tables():
            for state in states_of(table):
                self.check_same(write(table, state, ()), ((), state))
                self.check_same(bit_count(table, state, ()), 0)

    def test_more_letters_than_a_text_has(self):
        self.check_same(write((0, 1), 2, (1,) * 2001), written((0, 1), 2, (1,) * 2001))

    def test_from_a_greater_state_as_many_bits_or_one_more(self):
        for table in TABLES:
            for text in drawn_texts(15, table, (1, 2, 5, 30)):
                counts = [bit_count(table, state, text) for state in states_of(table)]
                self.assertEqual(counts, sorted(counts))
                self.assertLessEqual(counts[-1] - counts[0], 1)

    def test_in_two_parts(self):
        for table in TABLES[::3]:
            for text in drawn_texts(16, table, (1, 5, 40)):
                for cut in (0, len(text) // 2, len(text)):
                    for state in some_states(table):
                        bits, middle = write(table, state, text[:cut])
                        more, last = write(table, middle, text[cut:])
                        self.check_same(write(table, state, text), (bits + more, last))


class WrongTest(unittest.TestCase, Checks):
    def test_states_beside_the_table(self):
        for table in shaped_tables():
            for state in (len(table) - 1, 2 * len(table), 0, -len(table)):
                for function in (write, bit_count):
                    self.check_raises(NoState, {"given": state}, function, table, state, ())

    def test_values_that_are_no_states(self):
        for table in ((0, 1, 0, 0), (0,)):
            for value in ODD_VALUES + ODD_TUPLES + FAR_INTEGERS + ((), (4,), [4], "4", {4: 4}):
                for text in ((), (0,), (9,)):
                    for function in (write, bit_count):
                        self.check_raises(NoState, {"given": value}, function, table, value, text)

    def test_true_is_no_state(self):
        self.check_same(write((9,), 1, (9, 9)), ((), 1))
        self.check_raises(NoState, {"given": True}, write, (9,), True, (9, 9))
        self.check_raises(NoState, {"given": True}, bit_count, table=(9,), state=True, text=())

    def test_first_letter_that_the_table_has_not(self):
        table = (0, 1, 0, 0)
        for text, given in (((2,), 2), ((0, 25, 2), 25), ((0, 1) * 999 + (7,), 7), ((0, 3, 2, 25), 3)):
            for state in states_of(table):
                for function in (write, bit_count):
                    self.check_raises(NoLetter, {"given": given}, function, table, state, text)

    def test_no_state_comes_first(self):
        for function in (write, bit_count):
            self.check_raises(NoState, {"given": 8}, function, (0, 1, 0, 0), 8, (2, 3))
            self.check_raises(NoState, {"given": None}, function, table=(0, 1), state=None, text=(2,))


class PackTest(unittest.TestCase, Checks):
    def test_as_written_from_the_first_state(self):
        for table in TABLES:
            for text in drawn_texts(17, table, (0, 1, 7, 64)):
                bits, state = written(table, len(table), text)
                self.check_call((len(text), state, bits), pack, table=table, text=text)

    def test_longest(self):
        table = (0,) + (1,) * 63
        self.check_same(pack(table, (0,) * 2000), (2000, 64, (0,) * 12000))
        self.check_same(pack((3,), (3,) * 2000), (2000, 1, ()))

    def test_letters_that_the_table_has_not(self):
        self.check_raises(NoLetter, {"given": 2}, pack, (0, 1, 0, 0), (0, 2, 3))
        self.check_raises(NoLetter, {"given": 0}, pack, table=(25,), text=(25, 0))


if __name__ == "__main__":
    unittest.main()
