"""Combs: [F3], [F5], and what [F6] and [A2] (d) tell of combs."""

import itertools
import unittest

from tests.model import all_texts, rows_left, states_left
from tests.support import (
    Checks, FAR_INTEGERS, ODD_TUPLES, ODD_VALUES, drawn_tables, drawn_texts, every_table, shaped_tables, small_tables,
)
from unpassed.combs import comb, is_comb, reset_text
from unpassed.errors import TooMany
from unpassed.lots import lots, rank
from unpassed.tables import letters_of, text_error

SMALL = small_tables() + every_table(6, (0, 1))[::3] + every_table(9, (0, 1))[::40]
MIDDLE = [table for table in shaped_tables() + drawn_tables(131, 60, (6, 8, 10, 12, 14, 15, 16)) if len(table) <= 16]
GREAT = [table for table in shaped_tables() + drawn_tables(132, 6, (17, 18, 63, 64)) if len(table) > 16]
ODD = ODD_VALUES + ODD_TUPLES + FAR_INTEGERS + (0, 1, [0, 1], "a", ((0,),))


class IsCombTest(unittest.TestCase, Checks):
    def test_as_all_texts_tell(self):
        for table in small_tables()[::3]:
            least = min([len(states) for states in rows_left(table)])
            for text in all_texts(table, 4):
                self.check_call(len(states_left(table, text)) == least, is_comb, table=table, value=text)

    def test_one_state_of_each_lot(self):
        for table in MIDDLE + GREAT:
            for text in drawn_texts(133, table, (0, 1, 2, 5, 40, 400)):
                left = states_left(table, text)
                each = [len([state for state in left if state in lot]) for lot in lots(table)]
                self.check_same(is_comb(table, text), each == [1] * rank(table))

    def test_with_texts_ahead_and_behind(self):
        for table in MIDDLE:
            text = comb(table)
            for other in drawn_texts(134, table, (1, 3, 1999 - len(text))):
                self.check_same((is_comb(table, text + other), is_comb(table, other + text)), (True, True))

    def test_a_text_too_long_is_none(self):
        for table in ((0, 1), (5,), (0, 0, 1), (9,) * 64, (0, 1) * 32):
            text = table[-1:] * 1999 + table[:1]
            self.check_same(is_comb(table, text), True)
            self.check_same(is_comb(table, text + table[:1]), False)
            self.check_same(is_comb(table, list(text)), False)

    def test_any_values(self):
        for table in ((0, 1, 0, 0), (0, 1), (9,), (9, 9), (0,) * 64):
            for value in ODD:
                self.check_same(is_comb(table, value), False)
            self.check_same(is_comb(table, ()), len(table) == rank(table))

    def test_items_that_are_no_letters(self):
        table = (0, 1, 0, 1)
        self.check_same(is_comb(table, (0, 1)), True)
        for item in ODD_VALUES + ODD_TUPLES + FAR_INTEGERS + ((), (0,), 2, 25, 26):
            for value in ((0, item), (item, 0), (0, 1, item, 1), (item,)):
                self.check_same(is_comb(table, value), False)

    def test_true_is_no_letter(self):
        self.check_same([is_comb((0, 0, 1), value) for value in ((1,), (True,), (1, False))], [True, False, False])

    def test_greatest_tables(self):
        for table, text, wanted in (
            ((0,) * 63 + (1,), (1,), True), ((0,) * 63 + (1,), (0,) * 2000, False), ((9,) * 64, (), True),
            ((0, 1) * 32, (0,), True), ((0, 1) * 32, (), False), (tuple(range(26)), (7,), True),
        ):
            self.check_same(self.check_quick(is_comb, table, text), wanted)


class CombTest(unittest.TestCase, Checks):
    def test_it_is_one(self):
        for table in SMALL + MIDDLE:
            text = self.check_quick(comb, table)
            self.assertIsNone(text_error(table, text))
            self.assertEqual(len(states_left(table, text)), rank(table))
            self.check_same(is_comb(table, text), True)
            self.check_call(text, comb, table=table)

    def test_tables_of_sixteen_cells(self):
        for letters in ((0, 1), (0, 1, 2), (3, 7, 9, 11)):
            for block in itertools.islice(itertools.product(letters, repeat=8), 0, 6000, 131):
                for table in (block * 2, block + tuple(sorted(block)), tuple(sorted(block * 2))):
                    text = comb(table)
                    self.assertLess(len(text), 2000)
                    self.assertEqual(len(states_left(table, text)), rank(table))

    def test_edges(self):
        self.check_same(comb((9,)), ())
        self.check_same(comb((9,) * 16), ())
        self.check_same(is_comb((0, 1) * 8, comb((0, 1) * 8)), True)
        self.check_same(rank((0, 1) * 8), 8)

    def test_more_cells(self):
        for table in GREAT + [(0,) * 17, tuple(range(17)), (0, 1) * 9]:
            self.check_raises(TooMany, {"limit": 16}, comb, table)
            self.check_raises(TooMany, {"limit": 16}, comb, table=table)


class ResetTest(unittest.TestCase, Checks):
    def test_as_few_letters_as_can_be(self):
        for table in SMALL + [table for table in MIDDLE if len(table) <= 12]:
            found = rows_left(table)
            alone = [many for states, many in found.items() if len(states) == 1]
            text = reset_text(table)
            if alone:
                self.assertEqual(len(text), min(alone))
                self.assertIsNone(text_error(table, text))
                self.assertEqual(len(states_left(table, text)), 1)
            else:
                self.check_same(text, None)
            self.check_call(text, reset_text, table=table)

    def test_tables_of_up_to_sixteen_cells(self):
        for table in MIDDLE:
            text = self.check_quick(reset_text, table)
            self.assertEqual(text is None, rank(table) > 1)
            if text is not None:
                self.check_same(is_comb(table, text), True)
                self.assertLessEqual(len(text), len(comb(table)))

    def test_many_letters(self):
        for table, many in (((0, 1, 1, 0, 0, 1, 0, 1, 0, 1, 1, 0, 1, 0, 1, 1), 19),
                            ((1, 0, 1, 0, 1, 0, 0, 1, 1, 1, 0, 0, 0, 1, 1, 1), 14)):
            self.assertEqual(min([least for states, least in rows_left(table).items() if len(states) == 1]), many)
            self.assertEqual(len(reset_text(table)), many)
            self.check_same(is_comb(table, reset_text(table)), True)

    def test_edges(self):
        self.check_same(reset_text((9,)), ())
        self.check_same(reset_text((9,) * 2), None)
        self.check_same(reset_text((9,) * 16), None)
        self.check_same(reset_text((0, 1) * 8), None)
        self.assertIn(reset_text(tuple(range(16))), [(letter,) for letter in range(16)])
        self.check_same(reset_text((0,) * 15 + (1,)), (1,))

    def test_no_letter_alone_does(self):
        for table in MIDDLE:
            text = reset_text(table)
            if text is not None and len(text) > 1:
                self.assertFalse([letter for letter in letters_of(table) if table.count(letter) == 1])

    def test_more_cells(self):
        for table in GREAT + [(0,) * 17, tuple(range(17)), (0,) * 16 + (1,)]:
            self.check_raises(TooMany, {"limit": 16}, reset_text, table)
            self.check_raises(TooMany, {"limit": 16}, reset_text, table=table)


if __name__ == "__main__":
    unittest.main()
