"""Reading: [B3], [B4], what [B5] says of unpack, and [A2] (a) and [B6]."""

import random
import unittest

from tests.model import read_letters, some_states, states_of, written
from tests.support import (
    Checks, FAR_INTEGERS, ODD_TUPLES, ODD_VALUES, drawn_tables, drawn_texts, shaped_tables, small_tables,
)
from unpassed.errors import NoState, Short, TooMany, Unfit
from unpassed.reading import read, read_back, unpack
from unpassed.tables import letters_of
from unpassed.writing import pack, write

TABLES = small_tables()[::4] + shaped_tables() + drawn_tables(21, 30, (2, 3, 4, 5, 7, 9, 10, 12, 31, 64))
NO_STATES = ODD_VALUES + ODD_TUPLES + FAR_INTEGERS + ((), (4,), [4], "4", {4: 4}, 3, 8, 0)


def drawn_bits(seed, lengths):
    draw = random.Random(seed)
    return [tuple(draw.randrange(2) for _ in range(length)) for length in lengths]


class ReadTest(unittest.TestCase, Checks):
    def test_as_the_document_tells(self):
        for table in TABLES:
            for bits in drawn_bits(22, (0, 1, 2, 5, 20)):
                for state in some_states(table)[:6]:
                    for many in (0, 1, 2, 5):
                        self.check_read(table, state, bits, many)

    def check_read(self, table, state, bits, many):
        text, last, rest = read_letters(table, state, bits, many)
        if len(text) == many:
            self.check_call((text, last, rest), read, table=table, state=state, bits=bits, many=many)
        else:
            self.check_raises(Short, {"done": len(text)}, read, table, state, bits, many)

    def test_read_undoes_write(self):
        for table in TABLES:
            for text, before in zip(drawn_texts(23, table, (0, 1, 6, 40)), drawn_bits(24, (3, 0, 1, 9))):
                for state in some_states(table):
                    bits, new = write(table, state, text)
                    self.check_same(read(table, new, before + bits, len(text)), (text, state, before))

    def test_write_undoes_read(self):
        for table in TABLES:
            for bits in drawn_bits(25, (0, 7, 60)):
                for new in some_states(table):
                    text, _, _ = read_letters(table, new, bits, 7)
                    text, state, rest = read(table, new, bits, len(text))
                    self.check_same(write(table, state, text), (bits[len(rest):], new))

    def test_long_texts(self):
        for table in shaped_tables():
            for text in drawn_texts(26, table, (1999, 2000)):
                bits, new = write(table, 2 * len(table) - 1, text)
                self.check_same(read(table, new, bits, len(text)), (text, 2 * len(table) - 1, ()))

    def test_as_many_as_the_bits_last_for_and_one_more(self):
        for table in TABLES:
            if len(letters_of(table)) == 1:
                continue
            for bits in drawn_bits(27, (0, 1, 4, 33)):
                for state in (len(table), 2 * len(table) - 1):
                    text, last, rest = read_letters(table, state, bits, 2000)
                    self.check_same(read(table, state, bits, len(text)), (text, last, rest))
                    self.check_raises(Short, {"done": len(text)}, read, table, state, bits, len(text) + 1)
                    self.check_raises(Short, {"done": len(text)}, read, table, state, bits=bits, many=2000)

    def test_no_letters(self):
        for table in shaped_tables():
            for state in states_of(table):
                self.check_same(read(table, state, (1, 0), 0), ((), state, (1, 0)))

    def test_a_letter_alone_takes_nothing(self):
        self.check_same(read((9,), 1, (1, 0), 2000), ((9,) * 2000, 1, (1, 0)))
        self.check_same(read((4,) * 64, 127, (), 2000), ((4,) * 2000, 127, ()))

    def test_most_bits_of_all(self):
        table = (0,) + (1,) * 63
        self.check_same(read(table, 64, (0,) * 12000, 2000), ((0,) * 2000, 64, ()))
        self.check_same(read(table, 64, (1,) + (0,) * 12000, 2000), ((0,) * 2000, 64, (1,)))
        self.check_raises(Short, {"done": 1999}, read, table, 64, (0,) * 11999, 2000)

    def test_no_state_comes_first(self):
        for table in ((0, 1, 0, 0), (0, 1, 2, 3)):
            for value in NO_STATES:
                self.check_raises(NoState, {"given": value}, read, table, value, (), 0)
                self.check_raises(NoState, {"given": value}, read, table, state=value, bits=(), many=99)


class ReadBackTest(unittest.TestCase, Checks):
    def test_as_the_document_tells(self):
        for table in TABLES:
            if len(letters_of(table)) == 1:
                continue
            for bits in drawn_bits(31, (0, 1, 2, 5, 20, 200)):
                for state in some_states(table)[:6]:
                    wanted = read_letters(table, state, bits, 2001)
                    if len(wanted[0]) > 2000:
                        self.check_raises(TooMany, {"limit": 2000}, read_back, table, state, bits)
                    else:
                        self.check_call(wanted, read_back, table=table, state=state, bits=bits)

    def test_what_was_written_comes_back_whole(self):
        for table in TABLES:
            if len(letters_of(table)) == 1:
                continue
            for text in drawn_texts(32, table, (1, 30)):
                bits, new = write(table, len(table), text)
                back, state, rest = read_back(table, new, bits)
                self.assertEqual(back[len(back) - len(text):], text)
                self.check_same(write(table, state, back), (bits[len(rest):], new))

    def test_just_as_many_letters_as_may_be(self):
        for table in ((0, 1), (0, 1, 2, 3), (0,) + (1,) * 63):
            bits = (0,) * (2000 * {2: 1, 4: 2, 64: 6}[len(table)])
            self.check_same(read_back(table, len(table), bits), ((0,) * 2000, len(table), ()))
            self.check_same(len(read_back(table, len(table), bits[1:])[0]), 1999)
        self.check_same(read_back((0, 1, 2, 3), 4, (0,) * 4001), ((0,) * 2000, 4, (0,)))

    def test_more_letters_than_may_be(self):
        for table, many in (((0, 1), 2001), ((0, 1), 12000), ((0, 1, 2, 3), 4002), ((0,) + (1,) * 63, 12006)):
            self.check_raises(TooMany, {"limit": 2000}, read_back, table, len(table), (0,) * many)
        self.check_raises(TooMany, {"limit": 2000}, read_back, (0,) * 63 + (1,), 64, (0, 1) * 6000)

    def test_letters_without_bits_behind_the_last_bit(self):
        table = (0,) * 63 + (1,)
        text, state, rest = read_back(table, 126, ())
        self.check_same((text, state, rest), read_letters(table, 126, (), 2001))
        self.assertEqual((text, state, rest), ((0,) * 62, 64, ()))

    def test_one_letter_alone(self):
        for table in ((0,), (25,), (2, 2), (3,) * 64):
            for state in (len(table), 2 * len(table) - 1):
                self.check_raises(Unfit, {}, read_back, table, state, ())
                self.check_raises(Unfit, {}, read_back, table, state, (0, 1))

    def test_no_state_comes_first(self):
        for value in NO_STATES:
            self.check_raises(NoState, {"given": value}, read_back, (0, 1, 0, 0), value, (0,) * 9)
            self.check_raises(NoState, {"given": value}, read_back, (7, 7, 7, 7), value, ())
            self.check_raises(NoState, {"given": value}, read_back, (0, 1, 2, 3), value, (0,) * 12000)


class UnpackTest(unittest.TestCase, Checks):
    def test_packets_come_back(self):
        for table in TABLES:
            for text in drawn_texts(41, table, (0, 1, 2, 12, 100)):
                self.check_call(text, unpack, table=table, value=pack(table, text))

    def test_longest(self):
        for table in ((0,) + (1,) * 63, (3,), (0, 1), (0, 1, 0, 0), (5,) * 64):
            for many in (1999, 2000):
                self.check_same(unpack(table, pack(table, (table[0],) * many)), (table[0],) * many)
            self.check_raises(Unfit, {}, unpack, table, pack(table, (table[0],) * 2001))

    def test_small_values_just_if_they_are_packets(self):
        for table in ((0, 1, 0, 0), (0, 0, 1), (0, 1), (1,), (2, 2), (0, 1, 2)):
            texts = {pack(table, text): text for text in self.short_texts(table)}
            for many in range(4):
                for state in range(10):
                    for bits in [tuple([n >> k & 1 for k in range(size)]) for size in range(6) for n in range(2 ** size)]:
                        self.check_small(table, (many, state, bits), texts)

    def short_texts(self, table):
        texts = [()]
        for text in texts:
            if len(text) < 3:
                texts.extend([text + (letter,) for letter in letters_of(table)])
        return texts

    def check_small(self, table, value, texts):
        if value in texts:
            self.check_same(unpack(table, value), texts[value])
        else:
            self.check_raises(Unfit, {}, unpack, table, value)

    def test_values_that_are_no_packets(self):
        for value in ODD_VALUES + ODD_TUPLES + FAR_INTEGERS + ("4 4:011", (), (4, 4), (4, 4, (0, 1, 1), ()), 4):
            self.check_raises(Unfit, {}, unpack, (0, 1, 0, 0), value)

    def test_parts_of_other_kinds(self):
        table = (0, 1, 0, 0)
        self.check_same(unpack(table, (4, 4, (0, 1, 1))), (0, 1, 0, 0))
        for part in ODD_VALUES + ODD_TUPLES + FAR_INTEGERS + ((), [0, 1, 1], "011"):
            self.check_raises(Unfit, {}, unpack, table, (part, 4, (0, 1, 1)))
            self.check_raises(Unfit, {}, unpack, table, (4, part, (0, 1, 1)))
            self.check_raises(Unfit, {}, unpack, table, (4, 4, part))
            self.check_raises(Unfit, {}, unpack, table, (4, 4, (0, part, 1)))
        for bits in ((0, 1, 2), (0, 1, -1), (False, 1, 1), (0, True, True), (0, 1, "1")):
            self.check_raises(Unfit, {}, unpack, table, (4, 4, bits))
        # With 1 doubled and one less the reader would go on from 1, and come to the first state by the next bit.
        self.check_raises(Unfit, {}, unpack, (0, 1), (1, 2, (0, -1)))

    def test_true_is_no_number(self):
        self.check_same(unpack((9,), (1, 1, ())), (9,))
        self.check_raises(Unfit, {}, unpack, (9,), (True, 1, ()))
        self.check_raises(Unfit, {}, unpack, (9,), (1, True, ()))
        self.check_raises(Unfit, {}, unpack, (9,), (False, 1, ()))

    def test_other_starts_and_bits_that_are_left(self):
        table = (0, 1, 0, 0)
        for state in (5, 6, 7):
            bits, last = written(table, state, (0, 1))
            self.check_raises(Unfit, {}, unpack, table, (2, last, bits))
        bits, last = written(table, 4, (0, 1))
        self.check_same(unpack(table, (2, last, bits)), (0, 1))
        for wrong in ((0,) + bits, (1,) + bits, bits[1:], (0,) * 12001, (0,) * 13000):
            self.check_raises(Unfit, {}, unpack, table, (2, last, wrong))
        for many in (-1, 1, 3, 2000, 2001):
            self.check_raises(Unfit, {}, unpack, table, (many, last, bits))
        self.check_raises(Unfit, {}, unpack, table, (-1, 4, ()))


if __name__ == "__main__":
    unittest.main()
