"""Tables and texts: [A4] to [A7], and [A9] as far as it tells of them."""

import unittest

from tests.support import (
    Checks, FAR_INTEGERS, ODD_TUPLES, ODD_VALUES, drawn_tables, drawn_texts, shaped_tables, small_tables,
)
from unpassed.errors import NoLetter, Unfit
from unpassed.tables import cell_of, count_of, counts_of, letters_of, rank_at, table_error, text_error

NO_INTEGERS = ODD_VALUES + ODD_TUPLES + ((), (0,), (0, 1), (5,))


def all_tables():
    return small_tables() + shaped_tables() + drawn_tables(1, 60, tuple(range(1, 13)) + (63, 64))


class TableErrorTest(unittest.TestCase, Checks):
    def test_tables(self):
        for table in all_tables():
            self.check_call(None, table_error, value=table)

    def test_how_many_cells(self):
        for letter in (0, 25):
            for many in (1, 2, 12, 62, 63, 64):
                self.check_same(table_error((letter,) * many), None)
            for many in (0, 65, 66, 2000, 13000):
                self.check_same(table_error((letter,) * many), "form")

    def test_no_tuples(self):
        for value in ODD_VALUES + FAR_INTEGERS + (0, 1, 25, [0, 1], "ab", {0: 0, 1: 1}):
            self.check_call("form", table_error, value=value)

    def test_cells_that_are_no_letters(self):
        for item in NO_INTEGERS + FAR_INTEGERS + (26, 27, 64):
            self.check_call(("cell", 0), table_error, value=(item,))
            self.check_same(table_error((item, 0, item)), ("cell", 0))
            self.check_same(table_error((0, 25, item)), ("cell", 2))
            self.check_same(table_error((0,) * 63 + (item,)), ("cell", 63))
            self.check_same(table_error((1, item, 26, True)), ("cell", 1))

    def test_form_comes_first(self):
        self.check_same(table_error((26,) * 65), "form")
        self.check_same(table_error([26]), "form")
        self.check_same(table_error((None,) * 64), ("cell", 0))

    def test_edges_of_letters(self):
        self.check_same([table_error((letter,)) for letter in (-1, 0, 1, 24, 25, 26)],
                        [("cell", 0), None, None, None, None, ("cell", 0)])


class TextErrorTest(unittest.TestCase, Checks):
    def test_texts(self):
        for table in all_tables():
            for text in drawn_texts(2, table, (0, 1, 2, 5, 12)):
                self.check_call(None, text_error, table=table, value=text)

    def test_how_long(self):
        for table in ((0,), (0, 1, 0, 0), tuple(range(26)) * 2):
            for many in (0, 1, 1999, 2000):
                self.check_same(text_error(table, (0,) * many), None)
            for many in (2001, 2002, 13000):
                self.check_same(text_error(table, (0,) * many), "form")
                self.check_same(text_error(table, (None,) * many), "form")

    def test_no_tuples(self):
        for value in ODD_VALUES + FAR_INTEGERS + (0, 1, [1, 0], "ab"):
            self.check_call("form", text_error, table=(0, 1), value=value)

    def test_items_that_are_no_letters(self):
        for table in ((0, 1, 0, 0), (1, 0), (0,)):
            for item in NO_INTEGERS + FAR_INTEGERS + (2, 25, 26):
                self.check_call(("letter", 0), text_error, table=table, value=(item,))
                self.check_same(text_error(table, (0, 0, item, 0, item)), ("letter", 2))
                self.check_same(text_error(table, (0,) * 1999 + (item,)), ("letter", 1999))

    def test_letters_that_the_table_has_not(self):
        for table in shaped_tables():
            for letter in range(-1, 28):
                wanted = None if letter in table else ("letter", 1)
                self.check_same(text_error(table, (table[0], letter)), wanted)

    def test_one_and_nought_are_no_bools(self):
        self.check_same(text_error((0, 1), (True,)), ("letter", 0))
        self.check_same(text_error((0, 1), (1, False)), ("letter", 1))


class CountsTest(unittest.TestCase, Checks):
    def test_letters_and_counts(self):
        for table in all_tables():
            letters = tuple([letter for letter in range(26) if letter in table])
            counts = tuple([(letter, len([cell for cell in table if cell == letter])) for letter in letters])
            self.check_call(letters, letters_of, table=table)
            self.check_call(counts, counts_of, table=table)
            self.assertEqual(sum([count for _, count in counts_of(table)]), len(table))

    def test_count_of_each_letter(self):
        for table in shaped_tables():
            for letter in range(26):
                wanted = dict(counts_of(table)).get(letter, 0)
                self.check_call(wanted, count_of, table=table, letter=letter)


class CellsTest(unittest.TestCase, Checks):
    def test_cells_ascend_and_undo_ranks(self):
        for table in all_tables():
            for letter, count in counts_of(table):
                cells = [cell_of(table, letter, k) for k in range(count)]
                self.assertEqual(cells, [cell for cell, borne in enumerate(table) if borne == letter])
                self.assertEqual(cells, sorted(cells))
                for k, cell in enumerate(cells):
                    self.assertGreaterEqual(cell, k)
                    self.check_same(rank_at(table, cell), (letter, k))
            for cell in range(len(table)):
                letter, k = rank_at(table, cell)
                self.check_same(cell_of(table, letter, k), cell)

    def test_by_place_and_by_name(self):
        self.check_call(3, cell_of, table=(0, 1, 0, 0), letter=0, k=2)
        self.check_call((0, 2), rank_at, table=(0, 1, 0, 0), cell=3)
        self.check_call(63, cell_of, table=(3,) * 64, letter=3, k=63)
        self.check_call((3, 63), rank_at, table=(3,) * 64, cell=63)

    def test_just_outside(self):
        for table in shaped_tables():
            for letter, count in counts_of(table):
                for k in (-1, count, count + 1, -count):
                    self.check_raises(Unfit, {}, cell_of, table, letter, k)
            for cell in (-1, len(table), len(table) + 1, -len(table)):
                self.check_raises(Unfit, {}, rank_at, table, cell)

    def test_no_letters(self):
        for table in ((0, 1, 0, 0), (1, 0), (0,)):
            for letter in NO_INTEGERS + FAR_INTEGERS + (2, 24, 25, 26):
                for k in (0, 1, 4, None, True):
                    self.check_raises(NoLetter, {"given": letter}, cell_of, table, letter, k)

    def test_no_numbers(self):
        for table in ((0, 1, 0, 0), (1, 0), (0,)):
            for value in NO_INTEGERS + FAR_INTEGERS:
                self.check_raises(Unfit, {}, cell_of, table, 0, value)
                self.check_raises(Unfit, {}, rank_at, table, value)

    def test_no_letter_comes_first(self):
        self.check_raises(NoLetter, {"given": 2}, cell_of, (0, 1, 0, 0), 2, 9)
        self.check_raises(NoLetter, {"given": True}, cell_of, (0, 1, 0, 0), letter=True, k=None)


if __name__ == "__main__":
    unittest.main()
