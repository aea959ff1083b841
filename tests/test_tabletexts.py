"""The strings of tables and of texts: [A8], and [A9] as far as it tells of them."""

import unittest

from tests.support import (
    Checks, FAR_INTEGERS, ODD_TUPLES, ODD_VALUES, drawn_tables, drawn_texts, shaped_tables, small_tables,
)
from unpassed.errors import BadText
from unpassed.tabletexts import letters_text, read_letters, read_table, table_text

# Each of these signs is that of no letter; those beside a and z, blanks and line feeds are among them.
OTHER_SIGNS = [chr(code) for code in range(32, 127) if not "a" <= chr(code) <= "z"] + ["\n"]


def string_of(letters):
    return "".join([chr(ord("a") + letter) for letter in letters])


class WrittenTest(unittest.TestCase, Checks):
    def test_tables(self):
        for table in small_tables() + shaped_tables() + drawn_tables(3, 60, tuple(range(1, 13)) + (63, 64)):
            self.check_call(string_of(table), table_text, table=table)
            self.check_call(table, read_table, value=string_of(table))

    def test_texts(self):
        for table in shaped_tables() + drawn_tables(4, 20, (1, 4, 12, 64)):
            for text in drawn_texts(5, table, (0, 1, 2, 12, 65, 1999, 2000)):
                self.check_call(string_of(text), letters_text, text=text)
                self.check_call(text, read_letters, table=table, value=string_of(text))

    def test_each_letter(self):
        for letter in range(26):
            self.check_same(table_text((letter,)), "abcdefghijklmnopqrstuvwxyz"[letter])
            self.check_same(letters_text((letter,)), "abcdefghijklmnopqrstuvwxyz"[letter])


class ReadTest(unittest.TestCase, Checks):
    def test_how_long_a_table_is(self):
        for many in (1, 63, 64):
            self.check_same(read_table("z" * many), (25,) * many)
        for many in (0, 65, 66, 2000, 20000):
            self.check_raises(BadText, {}, read_table, "z" * many)

    def test_how_long_a_text_is(self):
        for many in (0, 1, 64, 65, 1999, 2000):
            self.check_same(read_letters((0, 1), "b" * many), (1,) * many)
        for many in (2001, 2002, 20000):
            self.check_raises(BadText, {}, read_letters, (0, 1), "b" * many)

    def test_signs_of_no_letters(self):
        self.assertIn("`", OTHER_SIGNS)
        self.assertIn("{", OTHER_SIGNS)
        every = tuple(range(26))
        for sign in OTHER_SIGNS:
            for value in (sign, "a" + sign, sign + "a", "ab" + sign + "ba"):
                self.check_raises(BadText, {}, read_table, value)
                self.check_raises(BadText, {}, read_letters, every, value)

    def test_letters_that_the_table_has_not(self):
        for value in ("c", "abc", "cab", "z", "a" * 1999 + "c"):
            self.check_raises(BadText, {}, read_letters, (0, 1, 0, 0), value)
        self.check_same(read_letters((2,), "cc"), (2, 2))
        self.check_raises(BadText, {}, read_letters, (2,), "a")

    def test_values_that_are_no_strings(self):
        values = [value for value in ODD_VALUES if not isinstance(value, str)]
        for value in (*values, *ODD_TUPLES, *FAR_INTEGERS, 0, 1, (), (0,), ("a", "b"), ["a"], b"ab"):
            self.check_raises(BadText, {}, read_table, value)
            self.check_raises(BadText, {}, read_letters, (0, 1), value)


if __name__ == "__main__":
    unittest.main()
