"""All tables with the same counts: [I1], [I3] to [I5]."""

import random
import unittest
from fractions import Fraction

from tests.counts import GREAT, MORE_TABLES, MOST_TABLES, SMALL, drawn_counts
from tests.model import cost_of, tables_with, written
from tests.support import Checks, FAR_INTEGERS, ODD_TUPLES, ODD_VALUES
from unpassed.costs import cost
from unpassed.errors import TooMany, Unfit
from unpassed.spreads import in_blocks
from unpassed.tablerows import best_cost, best_tables, table_at, table_many, table_number
from unpassed.tables import counts_of, table_error
from unpassed.writing import bit_count

DRAWN = tuple(drawn_counts(191, 40, 64))


def drawn_text(draw, counts, most=40):
    return tuple([draw.choice(counts)[0] for _ in range(draw.randint(0, most))])


def swapped(values, one, other):
    """The letters with two of them exchanged."""
    return tuple([{one: other, other: one}.get(value, value) for value in values])


class NumbersTest(unittest.TestCase, Checks):
    def test_all_of_few_cells(self):
        for counts in SMALL:
            tables = tables_with(counts)
            self.check_call(len(tables), table_many, counts=counts)
            for number, table in enumerate(tables):
                self.check_call(table, table_at, counts=counts, number=number)
                self.check_call(number, table_number, table=table)

    def test_many_cells(self):
        draw = random.Random(192)
        for counts in GREAT + DRAWN:
            many = table_many(counts)
            for number in {0, 1, many // 2, many - 2, many - 1, draw.randrange(many), draw.randrange(many)}:
                if 0 <= number < many:
                    table = self.check_quick(table_at, counts, number)
                    self.check_same((table_error(table), counts_of(table)), (None, counts))
                    self.check_same(self.check_quick(table_number, table), number)
            self.check_same(table_at(counts, 0), in_blocks(counts))
            self.check_same(table_at(counts, many - 1), in_blocks(counts)[::-1])

    def test_they_ascend(self):
        draw = random.Random(193)
        for counts in GREAT + DRAWN:
            numbers = sorted({draw.randrange(table_many(counts)) for _ in range(9)})
            tables = [table_at(counts, number) for number in numbers]
            self.assertEqual(tables, sorted(set(tables)))
            # The neighbours of a number are neighbours: nothing lies between them that begins as both do.
            for number in numbers:
                if number + 1 < table_many(counts):
                    self.assertLess(table_at(counts, number), table_at(counts, number + 1))

    def test_edges(self):
        self.check_same((table_many(((25, 1),)), table_at(((25, 1),), 0), table_number((25,))), (1, (25,), 0))
        self.check_same((table_many(((4, 64),)), table_at(((4, 64),), 0), table_number((4,) * 64)), (1, (4,) * 64, 0))
        self.check_same(table_many(((0, 32), (1, 32))), 1832624140942590534)
        self.check_same(table_number((1,) * 32 + (0,) * 32), 1832624140942590533)
        self.check_same([table_number((0,) * place + (1,) + (0,) * (63 - place)) for place in (63, 62, 0)], [0, 1, 63])
        every = tuple([(letter, 1) for letter in range(26)])
        self.check_same(table_many(every), 403291461126605635584000000)
        self.check_same(table_at(every, table_many(every) - 1), tuple(range(25, -1, -1)))

    def test_no_number(self):
        for counts in (((0, 3), (1, 1)), ((4, 64),), ((0, 32), (1, 32)), ((25, 1),)):
            many = table_many(counts)
            for value in ODD_VALUES + ODD_TUPLES + (-1, -2, many, many + 1, 10 ** 399, -10 ** 399):
                self.check_raises(Unfit, {}, table_at, counts, value)
        self.check_raises(Unfit, {}, table_at, counts=((0, 1), (1, 1)), number=True)
        self.check_raises(Unfit, {}, table_at, counts=((0, 1), (1, 1)), number=2)


class BestTest(unittest.TestCase, Checks):
    def check_best(self, counts, text):
        tables = tables_with(counts)
        bits = [len(written(table, len(table), text)[0]) for table in tables]
        wanted = tuple([table for table, own in zip(tables, bits) if own == min(bits)])
        self.check_call(wanted, best_tables, counts=counts, text=text)
        if text:
            costs = [cost_of(table, text) for table in tables]
            first = tables[costs.index(min(costs))]
            told = (min(costs).numerator, min(costs).denominator), first
            self.check_call(told, best_cost, counts=counts, text=text)

    def test_as_writing_tells(self):
        draw = random.Random(194)
        for counts in SMALL:
            if table_many(counts) <= 120:
                self.check_best(counts, ())
                for letter, _ in counts[:2]:
                    self.check_best(counts, (letter,))
                    self.check_best(counts, (letter,) * 3)
                for most in (4, 9, 40):
                    self.check_best(counts, drawn_text(draw, counts, most))

    def test_longest_texts(self):
        for counts in (((0, 3), (1, 1)), ((0, 2), (1, 1), (2, 1)), ((4, 3),)):
            self.check_best(counts, tuple([letter for letter, _ in counts] * 40)[:40])

    def test_just_as_many_as_may_be(self):
        draw = random.Random(195)
        for counts in MOST_TABLES:
            self.check_same(table_many(counts), 1980)
            text = drawn_text(draw, counts)
            tables = self.check_quick(best_tables, counts, text)
            size = len(tables[0])
            self.assertEqual(list(tables), sorted(set(tables)))
            self.check_same({counts_of(table) for table in tables}, {counts})
            fewest = {bit_count(table, size, text) for table in tables}
            self.assertEqual(len(fewest), 1)
            for number in range(0, 1980, 7):
                table = table_at(counts, number)
                bits = bit_count(table, size, text)
                self.assertGreaterEqual(bits, min(fewest))
                self.assertEqual(table in tables, bits == min(fewest))

    def test_least_cost_of_as_many_as_may_be(self):
        draw = random.Random(196)
        for counts in MOST_TABLES:
            text = drawn_text(draw, counts) + (counts[0][0],)
            (above, below), table = self.check_quick(best_cost, counts, text)
            self.check_same(cost(table, text), (above, below))
            for number in range(0, 1980, 13):
                other = table_at(counts, number)
                own = Fraction(*cost(other, text))
                self.assertLessEqual((Fraction(above, below), table), (own, other))

    def test_greatest(self):
        for counts in (((0, 61), (1, 2)), ((0, 2), (1, 61)), ((0, 63), (25, 1)), ((4, 64),)):
            text = tuple([letter for letter, _ in counts] * 40)[:40]
            tables = self.check_quick(best_tables, counts, text)
            told, table = self.check_quick(best_cost, counts, text)
            self.check_same(told, cost(table, text))
            self.check_same({counts_of(one) for one in (*tables, table)}, {counts})
        self.check_same(best_tables(((4, 64),), (4,) * 40), ((4,) * 64,))
        self.check_same(best_cost(((4, 64),), (4,) * 40), ((0, 1), (4,) * 64))

    def test_too_many(self):
        for counts in MORE_TABLES:
            self.assertGreater(table_many(counts), 2000)
            letter = counts[0][0]
            for function in (best_tables, best_cost):
                self.check_raises(TooMany, {"limit": 2000}, function, counts, (letter,))
                self.check_raises(TooMany, {"limit": 2000}, function, counts=counts, text=(letter,) * 40)
            self.check_raises(TooMany, {"limit": 2000}, best_tables, counts, ())


class LawsTest(unittest.TestCase, Checks):
    def test_bits_of_a_letter_in_whatever_table(self):
        draw = random.Random(197)
        for counts in SMALL + GREAT + DRAWN:
            size = sum([count for _, count in counts])
            table = table_at(counts, draw.randrange(table_many(counts)))
            for letter, count in counts:
                least = max([bits for bits in range(7) if count * 2 ** bits <= size])
                for state in range(size, 2 * size):
                    more = 1 if state >= count * 2 ** (least + 1) else 0
                    self.check_same(bit_count(table, state, (letter,)), least + more)

    def test_all_tables_alike(self):
        # Each letter of the text costs just as many bits from everywhere, so there is no best one.
        for counts, text in ((((0, 2), (1, 2)), (0, 1, 1)), (((0, 3), (1, 1)), (1, 1)), (((0, 1), (1, 1), (2, 2)), (2, 0))):
            self.check_same(best_tables(counts, text), tuple(tables_with(counts)))
            self.check_same(best_cost(counts, text)[1], in_blocks(counts))

    def test_letters_that_change_names(self):
        draw = random.Random(198)
        for counts in (((0, 3), (1, 1)), ((0, 2), (1, 1), (2, 1)), ((1, 2), (5, 2), (7, 2)), ((3, 1), (20, 4))):
            one, other = counts[0][0], draw.choice((counts[-1][0], 9))
            turned = tuple(sorted([(swapped((letter,), one, other)[0], count) for letter, count in counts]))
            for _ in range(4):
                text = drawn_text(draw, counts, 9) + (counts[0][0],)
                tables = [swapped(table, one, other) for table in best_tables(counts, text)]
                changed = swapped(text, one, other)
                self.check_same(best_tables(turned, changed), tuple(sorted(tables)))
                self.check_same(best_cost(turned, changed)[0], best_cost(counts, text)[0])
                self.check_same(cost(swapped(tables[0], one, other), text), cost(tables[0], changed))


if __name__ == "__main__":
    unittest.main()
