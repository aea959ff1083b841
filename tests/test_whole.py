"""The whole program: what [A2] promises, and any values ([A3]) wherever the document lets them."""

import copy
import itertools
import random
import unittest
from fractions import Fraction

from tests.model import all_texts, some_states, states_of, written
from tests.support import (
    Checks, FAR_INTEGERS, ODD_TUPLES, ODD_VALUES, bench_of, drawn_tables, drawn_texts, outcome, shaped_tables, small_tables,
)
from unpassed import (
    bittexts, books, combs, costs, joint, lengths, logs, means, reading, rounds, shares, starts, sums, tablerows, tables,
    tabletexts, turns, weights, writing,
)
from unpassed.benches import Bench
from unpassed.bookturns import book_rank
from unpassed.errors import Endless, NoName, RingError
from unpassed.lots import left_by, lots, rank
from unpassed.moves import moves
from unpassed.shells import Shell

TABLES = small_tables()[::7] + [table for table in shaped_tables() if len(table) <= 18] + drawn_tables(291, 12, (6, 9, 13))


class PromisesTest(unittest.TestCase, Checks):
    def test_a_what_is_written_is_read_back(self):
        for table in TABLES + [(0, 1) * 32, (9,) * 64]:
            for text in drawn_texts(292, table, (0, 1, 7, 200)):
                for state in some_states(table)[::3]:
                    bits, last = writing.write(table, state, text)
                    self.check_same(reading.read(table, last, bits, len(text)), (text, state, ()))
                packet = bittexts.read_packet(bittexts.packet_text(writing.pack(table, text)))
                self.check_same(reading.unpack(table, packet), text)

    def test_b_bits_from_two_starts(self):
        for table in TABLES:
            for text in drawn_texts(293, table, (1, 2, 5, 60)):
                bits = starts.bits_from(table, text)
                self.assertEqual(list(bits), sorted(bits))
                self.assertLessEqual(bits[-1] - bits[0], 1)
                self.check_same([writing.bit_count(table, state, text) for state in states_of(table)], list(bits))

    def test_c_one_cost_for_ever(self):
        for table in TABLES:
            for text in drawn_texts(294, table, (1, 2, 3, 9)):
                above, below = costs.cost(table, text)
                for states in rounds.rounds(table, text):
                    self.assertEqual(len(states), below)
                    for state in states:
                        self.check_same(rounds.bits_for(table, state, text, below), (above, state))
                    self.check_same(costs.cost_holds(table, text, (above, below, states)), True)
                for state in some_states(table):
                    bits, _ = rounds.bits_for(table, state, text, 10 ** 20)
                    self.assertLessEqual(abs(Fraction(bits) - Fraction(above, below) * 10 ** 20), 1)

    def test_d_lots_and_combs(self):
        for table in TABLES:
            if len(table) > 16:
                continue
            text = combs.comb(table)
            left = left_by(table, text)
            self.check_same([len([state for state in left if state in lot]) for lot in lots(table)], [1] * rank(table))
            for letter, bits in moves(table, text):
                for state in left:
                    told, reached = writing.write(table, state, (letter,) + text)
                    self.check_same((len(told), reached), (bits, state))
                self.check_same(costs.cost(table, (letter,) + text), (bits, 1))

    def test_e_excess_or_a_text_that_costs_more_and_more(self):
        pairs = [(one, other) for one, other in itertools.product(TABLES[::3], repeat=2)
                 if set(one) == set(other) and len(one) * len(other) * len(set(one)) <= 2000]
        for one, other in pairs:
            try:
                most = joint.excess(one, other)
            except Endless as error:
                self.check_same(joint.round_holds(one, other, error.paper), True)
                _, state, beside, text = error.paper
                gain = writing.bit_count(one, state, text * 3) - writing.bit_count(other, beside, text * 3)
                self.assertGreaterEqual(gain, 3)
            else:
                self.check_same(weights.excess_holds(one, other, weights.excess_paper(one, other)), True)
                for text in all_texts(one, 3):
                    gains = [writing.bit_count(one, state, text) - writing.bit_count(other, beside, text)
                             for state in states_of(one) for beside in states_of(other)]
                    self.assertLessEqual(max(gains), most)

    def test_f_shares_of_all_texts(self):
        for table in TABLES:
            for many in (0, 1, 2, 40):
                wholes = [Fraction(*shares.whole_of(table, state, many)) for state in states_of(table)]
                self.assertEqual(sum(wholes), len(table))

    def test_g_edits_taken_back(self):
        bench = bench_of(a=(0, 1), b=(2,))
        before = bench.shelf, bench.version, bench.log
        edits = (("put", "a", 1, 4), ("batch", (("drop", "b"), ("keep", "c", (3,)))), ("take", "a", 0), ("exchange", "a", 0, 1))
        for many in range(len(edits) + 1):
            for edit in edits[:many]:
                bench.turn("a", bench["a"])
                getattr(bench, edit[0])(*edit[1:])
            for _ in range(many):
                bench.undo()
            self.check_same((bench.shelf, bench.version, bench.log), before)

    def test_parts_of_one_whole(self):
        """What unlike modules tell of one thing is one."""
        for table in TABLES:
            letters = tables.letters_of(table)
            self.check_same(book_rank((table,)), rank(table))
            for letter in letters:
                self.check_same(means.cheapest(table, (letter,)), costs.cost(table, (letter,)))
                self.check_same(sums.fewest_bits(table, (letter,), len(table), 7), writing.bit_count(table, len(table), (letter,) * 7))
            told = tuple([(letter, turns.letter_turn(table, letter)) for letter in letters])
            self.check_same(turns.table_of(told), table)
            self.check_same(tablerows.table_at(tables.counts_of(table), tablerows.table_number(table)), table)
            self.check_same(tabletexts.read_table(tabletexts.table_text(table)), table)
            self.check_same(bench_of(a=table).turn("a", letters), turns.text_turn(table, letters))
            self.check_same(lengths.telling_text(table, table) if len(table) <= 18 and len(letters) < 5 else None, None)


def nested(value, depth):
    """value in so many tuples, lists and dicts, one in the other."""
    for step in range(depth):
        value = ((value,), [value], {"a": value})[step % 3]
    return value


BENCH = bench_of(ring=(0, 1), a=(5,))
GREAT_VALUES = (
    nested(0, 20), nested((0, 1), 19), nested(BENCH, 18), (0,) * 13000, [0] * 13000, ((0,) * 12, (0,) * 12) * 500, ((),) * 13000,
    {place: (place,) for place in range(6000)}, {"z" * 20000: 0}, "a" * 20000, "\n" * 20000, "keep a b\n" * 2222, "0" * 20000,
    "9" * 20000, " " * 20000, "; " * 10000, (10 ** 399,) * 300, (-10 ** 399, 10 ** 399), ("a",) * 13000, "batch" + " drop a;" * 2000,
)
RETURNED = (
    BENCH, BENCH.shelf, BENCH.log, (BENCH,), [BENCH], (BENCH, BENCH), {"a": BENCH}, Shell(), (Shell(), 0), NoName(BENCH), (NoName(0),),
    ("round", BENCH, 0, ()), (1, 2, (BENCH,)), ((0, (BENCH,)),), ("keep", BENCH, BENCH), (("keep", BENCH, (0,)),), ("batch", BENCH),
    Endless(("round", 3, 3, (0,))), ((BENCH, 1),), (4, 4, BENCH), (BENCH, 4, ()), (0, ((BENCH,),), (2, 2, ())),
)
ANY = ODD_VALUES + ODD_TUPLES + FAR_INTEGERS + GREAT_VALUES + RETURNED

TABLE = (0, 1, 0, 0)
CALLS = (
    tables.table_error, lambda value: tables.text_error(TABLE, value), lambda value: tables.cell_of(TABLE, value, 0),
    lambda value: tables.cell_of(TABLE, 0, value), lambda value: tables.rank_at(TABLE, value), tabletexts.read_table,
    lambda value: tabletexts.read_letters(TABLE, value), lambda value: writing.write(TABLE, value, (0,)),
    lambda value: writing.bit_count(TABLE, value, ()), lambda value: reading.read(TABLE, value, (), 0),
    lambda value: reading.read_back(TABLE, value, ()), lambda value: reading.unpack(TABLE, value), bittexts.read_packet,
    lambda value: turns.turn_error(4, value), lambda value: turns.letter_turn(TABLE, value), turns.table_of,
    lambda value: costs.cost_holds(TABLE, (0,), value), lambda value: rounds.tail(TABLE, (0,), value),
    lambda value: rounds.bits_for(TABLE, value, (0,), 3), lambda value: starts.parting_text(TABLE, value, 4),
    lambda value: starts.parting_text(TABLE, 4, value), lambda value: starts.meeting_text(TABLE, value, value),
    lambda value: combs.is_comb(TABLE, value), lambda value: joint.round_holds(TABLE, TABLE, value),
    lambda value: weights.excess_holds(TABLE, TABLE, value), lambda value: means.mean_holds(TABLE, (0, 1), "least", value),
    lambda value: sums.fewest_bits(TABLE, (0,), value, 1), lambda value: sums.most_bits(TABLE, (0,), value, 1),
    lambda value: sums.cheapest_text(TABLE, (0,), value, 1), lambda value: sums.count_within(TABLE, (0,), value, 1, 1),
    lambda value: tablerows.table_at(((0, 3), (1, 1)), value), books.book_error,
    lambda value: books.write_line((TABLE,), value, ()), lambda value: books.read_line((TABLE,), value, (), ()),
    lambda value: books.read_by((TABLE,), ((0, 0), (1, 0)), 0, value, (), 0), lambda value: shares.whole_of(TABLE, value, 2),
    lambda value: lengths.seen_error((0, 1), value), logs.read_log, lambda value: Shell().say(value),
)
METHODS = (
    lambda bench, value: bench.keep(value, (0,)), lambda bench, value: bench.keep("b", value), lambda bench, value: bench.keep(value, value),
    lambda bench, value: bench.drop(value), lambda bench, value: bench.exchange(value, 0, 1),
    lambda bench, value: bench.exchange("ring", value, 0), lambda bench, value: bench.exchange("ring", 0, value),
    lambda bench, value: bench.put(value, 0, 0), lambda bench, value: bench.put("ring", value, 0),
    lambda bench, value: bench.put("ring", 0, value), lambda bench, value: bench.take(value, 0),
    lambda bench, value: bench.take("ring", value), lambda bench, value: bench.batch(value),
    lambda bench, value: bench.batch((("keep", value, value), value)), lambda bench, value: bench.batch((("keep", "b", value),)),
    lambda bench, value: bench.bits(value, (0,)), lambda bench, value: bench.bits("ring", value),
    lambda bench, value: bench.turn(value, value), lambda bench, value: bench.turn("ring", value),
    lambda bench, value: bench.cost(value, (0,)), lambda bench, value: bench.cost("ring", value), lambda bench, value: bench.at(value),
    lambda bench, value: bench[value], lambda bench, value: value in bench, lambda bench, value: bench == value,
)


class AnyValuesTest(unittest.TestCase, Checks):
    """Each value is answered, or turned away by an error of the package; nothing that is handed in is changed."""

    def test_functions(self):
        for call in CALLS:
            for value in ANY:
                before = copy.deepcopy(value)
                told = self.check_quick(outcome, call, value)
                self.check_same(outcome(call, value), told)
                self.check_same(value, before)

    def test_methods(self):
        for call in METHODS:
            for value in ANY:
                before = copy.deepcopy(value)
                bench, other = bench_of(ring=(0, 1), a=(5,)), bench_of(ring=(0, 1), a=(5,))
                told = self.check_quick(outcome, call, bench, value)
                self.check_same(outcome(call, other, value), told)
                self.check_same((bench.log, bench.shelf, bench.made), (other.log, other.shelf, other.made))
                if told[0] == "raised":
                    self.check_same((bench.version, bench.made, bench.shelf), (2, 0, (("a", (5,)), ("ring", (0, 1)))))
                self.check_same(value, before)

    def test_what_is_given_is_kept_as_it_was_passed(self):
        for value in ANY:
            if isinstance(value, str) or value in ((), 0, 1):
                continue
            for call, name in ((METHODS[3], "given"), (METHODS[21], "given"), (lambda bench, own: bench[own], "given")):
                with self.assertRaises(RingError) as caught:
                    call(Bench(), value)
                self.assertIs(getattr(caught.exception, name), value)


class BeyondTest(unittest.TestCase, Checks):
    """Somewhat beyond the limits nothing is raised that no point tells."""

    def test_longer_than_told(self):
        table = (0, 1) * 35
        text = (0, 1, 1) * 800
        bits, state = writing.write(table, 70, text)
        self.check_same((bits, state), written(table, 70, text))
        self.check_same(reading.read(table, state, bits, len(text)), (text, 70, ()))
        self.check_same(len(sums.cheapest_text(table, (0, 1), 70, 2100)), 2100)
        self.check_same(sums.fewest_bits(table, (0, 1), 70, 10 ** 31), 10 ** 31)
        self.check_same(shares.whole_of((0,) * 99 + (1,), 100, 45)[0] > 0, True)
        self.check_same(sums.count_within(table, (0, 1), 70, 45, 45), 2 ** 45)
        self.check_same(lengths.fitting(70, (3,), (((3,) * 50, 0),) * 2), ((3,) * 70,))
        self.check_same(books.write_line((table,) * 9, 70, tuple([(8, letter) for letter in text])), (bits, state))
        self.check_same(costs.cost(table, text), (2400, 1))


if __name__ == "__main__":
    unittest.main()
