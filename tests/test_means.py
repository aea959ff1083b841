"""Means: [H1] to [H3], and what [H6] tells of cheapest and dearest."""

import itertools
import random
import unittest
from fractions import Fraction

from tests.model import all_texts, is_mean_paper, means_of, states_of, written
from tests.support import (
    Checks, FAR_INTEGERS, ODD_TUPLES, ODD_VALUES, drawn_tables, shaped_tables, small_tables,
)
from unpassed.costs import cost
from unpassed.errors import NoLetter
from unpassed.means import cheapest, dearest, mean_holds, mean_paper
from unpassed.tables import letters_of, text_error
from unpassed.writing import bit_count

SMALL = small_tables()[::3] + [table for table in shaped_tables() if len(table) <= 12]
MIDDLE = drawn_tables(161, 20, (6, 7, 9, 12, 17))
GREAT = [table for table in shaped_tables() + drawn_tables(162, 6, (63, 64)) if len(table) > 12]
ODD = ODD_VALUES + ODD_TUPLES + FAR_INTEGERS
WORDS = ("least", "most")


def pair_of(fraction):
    return fraction.numerator, fraction.denominator


def some_letters(table):
    """Some tuples of ascending letters of the table, () not among them: each alone, all, and drawn ones."""
    letters = letters_of(table)
    draw = random.Random(163)
    found = [(letter,) for letter in letters[:3]] + [letters]
    for many in (2, len(letters) // 2, len(letters) - 1):
        if 0 < many < len(letters):
            found.append(tuple(sorted(draw.sample(letters, many))))
    return sorted(set(found))


class MeansTest(unittest.TestCase, Checks):
    def test_as_writing_tells(self):
        for table in SMALL + MIDDLE:
            for letters in some_letters(table):
                least, most = means_of(table, letters)
                self.check_call(pair_of(least), cheapest, table=table, letters=letters)
                self.check_call(pair_of(most), dearest, table=table, letters=letters)

    def test_great_tables(self):
        for table in GREAT[::4]:
            least, most = means_of(table, letters_of(table)[:3])
            self.check_same(cheapest(table, letters_of(table)[:3]), pair_of(least))
            self.check_same(dearest(table, letters_of(table)[:3]), pair_of(most))

    def test_no_text_is_beyond(self):
        for table in SMALL[::3]:
            letters = letters_of(table)
            low, high = Fraction(*cheapest(table, letters)), Fraction(*dearest(table, letters))
            for text in all_texts(table, 4)[1:]:
                mean = Fraction(*cost(table, text)) / len(text)
                self.assertTrue(low <= mean <= high)

    def test_one_letter_is_its_cost(self):
        for table in SMALL + MIDDLE + GREAT:
            for letter in letters_of(table):
                self.check_same(cheapest(table, (letter,)), cost(table, (letter,)))
                self.check_same(dearest(table, (letter,)), cost(table, (letter,)))

    def test_with_more_letters(self):
        for table in SMALL + MIDDLE:
            told = some_letters(table)
            for letters, more in itertools.product(told, repeat=2):
                if set(letters) <= set(more):
                    self.assertGreaterEqual(Fraction(*cheapest(table, letters)), Fraction(*cheapest(table, more)))
                    self.assertLessEqual(Fraction(*dearest(table, letters)), Fraction(*dearest(table, more)))
                self.assertLessEqual(Fraction(*cheapest(table, letters)), Fraction(*dearest(table, letters)))

    def test_bits_of_many_letters(self):
        for table in SMALL[::2]:
            letters = letters_of(table)
            low, high = Fraction(*cheapest(table, letters)), Fraction(*dearest(table, letters))
            for many in (1, 2, 4):
                texts = list(itertools.product(letters, repeat=many))
                for state in states_of(table):
                    bits = [bit_count(table, state, text) for text in texts]
                    self.assertLessEqual(abs(min(bits) - many * low), 1)
                    self.assertLessEqual(abs(max(bits) - many * high), 1)

    def test_edges(self):
        self.check_same((cheapest((9,), (9,)), dearest((9,), (9,))), ((0, 1), (0, 1)))
        self.check_same((cheapest((9,) * 64, (9,)), dearest((9,) * 64, (9,))), ((0, 1), (0, 1)))
        self.check_same((cheapest((0,) * 63 + (1,), (0, 1)), dearest((0,) * 63 + (1,), (0, 1))), ((1, 63), (6, 1)))
        self.check_same((cheapest((0, 1) * 32, (0, 1)), dearest((0, 1) * 32, (0, 1))), ((1, 1), (1, 1)))

    def test_all_letters_of_the_greatest_tables(self):
        for table in ((tuple(range(26)) * 2 + tuple(range(12))), tuple(range(26)), tuple(range(26)) + (25,) * 38):
            letters = tuple(range(26))
            low, high = self.check_quick(cheapest, table, letters), self.check_quick(dearest, table, letters)
            self.assertLessEqual(Fraction(*low), Fraction(*high))
            check_paper(self, table, letters, "least", self.check_quick(mean_paper, table, letters, "least"))
            check_paper(self, table, letters, "most", self.check_quick(mean_paper, table, letters, "most"))

    def test_no_letters_of_the_table(self):
        for function in (cheapest, dearest):
            check_no_letters(self, function)


def check_no_letters(test, function, *more):
    for table, letters, given in (
        ((0, 1, 0, 0), (0, 2, 3), 2), ((0, 1, 0, 0), (2,), 2), ((0, 1, 0, 0), (0, 1, 25), 25), ((1,), (0, 1), 0),
        ((3, 5), (2, 3, 4, 5, 6), 2), ((3, 5), (3, 4, 5, 6), 4), ((9,) * 64, tuple(range(26)), 0),
    ):
        test.check_raises(NoLetter, {"given": given}, function, table, letters, *more)
    named = dict(zip(("table", "letters", "word", "value"), ((0, 1), (1, 7, 8), *more)))
    test.check_raises(NoLetter, {"given": 7}, function, **named)


def check_paper(test, table, letters, word, paper):
    above, below, state, text, weights = paper
    wanted = cheapest(table, letters) if word == "least" else dearest(table, letters)
    test.check_same(((above, below), type(paper), type(weights), len(weights)), (wanted, tuple, tuple, len(table)))
    test.assertEqual({type(weight) for weight in weights}, {int})
    test.assertIn(state, states_of(table))
    test.check_same(text_error(table, text), None)
    test.assertLessEqual(set(text), set(letters))
    test.assertTrue(is_mean_paper(table, letters, word, paper))
    test.check_same(mean_holds(table, letters, word, paper), True)


class PaperTest(unittest.TestCase, Checks):
    def test_they_hold(self):
        for table in SMALL + MIDDLE + GREAT[::3]:
            for letters in some_letters(table):
                for word in WORDS:
                    paper = self.check_quick(mean_paper, table, letters, word)
                    check_paper(self, table, letters, word, paper)
                    self.check_call(paper, mean_paper, table=table, letters=letters, word=word)

    def test_edges(self):
        for word in WORDS:
            check_paper(self, (9,), (9,), word, mean_paper((9,), (9,), word))
            check_paper(self, (9,) * 64, (9,), word, mean_paper((9,) * 64, (9,), word))
            check_paper(self, (0,) * 63 + (1,), (0, 1), word, mean_paper((0,) * 63 + (1,), (0, 1), word))

    def test_no_letters_of_the_table(self):
        for word in WORDS:
            check_no_letters(self, mean_paper, word)


class HoldsTest(unittest.TestCase, Checks):
    PAPER = (1, 2, 4, (0, 0), (0, 0, 1, 1))

    def holds(self, value, word="least", letters=(0, 1)):
        return mean_holds((0, 1, 0, 0), letters, word, value)

    def test_by_place_and_by_name(self):
        tables = {"table": (0, 1, 0, 0), "letters": (0, 1)}
        self.check_call(True, mean_holds, **tables, word="least", value=self.PAPER)
        self.check_call(False, mean_holds, **tables, word="most", value=self.PAPER)
        self.check_call(False, mean_holds, **tables, word="least", value=list(self.PAPER))
        self.check_call(True, mean_holds, **tables, word="most", value=(2, 1, 5, (1,), (0, 0, 0, 0)))

    def test_papers_for_the_other_word_and_for_other_letters(self):
        for table in SMALL[::2]:
            for letters in some_letters(table):
                for word in WORDS:
                    paper = mean_paper(table, letters, word)
                    for others in some_letters(table):
                        for one in WORDS:
                            wanted = set(paper[3]) <= set(others) and is_mean_paper(table, others, one, paper)
                            self.check_same(mean_holds(table, others, one, paper), wanted)

    def test_weights_changed(self):
        for table in SMALL[::3]:
            for word in WORDS:
                paper = mean_paper(table, letters_of(table), word)
                for place, off in itertools.product(range(len(table)), (-2, -1, 1, 10 ** 30)):
                    weights = paper[4][:place] + (paper[4][place] + off,) + paper[4][place + 1:]
                    value = paper[:4] + (weights,)
                    wanted = is_mean_paper(table, letters_of(table), word, value)
                    self.check_same(mean_holds(table, letters_of(table), word, value), wanted)

    def test_all_weights_by_as_much(self):
        for off in (-5, 1, 10 ** 399, -10 ** 399):
            weights = tuple([weight + off for weight in self.PAPER[4]])
            self.check_same(self.holds(self.PAPER[:4] + (weights,)), True)

    def test_small_weights_just_if_they_hold(self):
        for weights in itertools.product((-1, 0, 1, 2), repeat=4):
            value = self.PAPER[:4] + (weights,)
            self.check_same(self.holds(value), is_mean_paper((0, 1, 0, 0), (0, 1), "least", value))
            value = self.PAPER[:4] + (weights,)
            self.check_same(self.holds(value, "most", (0,)), is_mean_paper((0, 1, 0, 0), (0,), "most", value))

    def test_other_rounds(self):
        table, weights = (0, 1, 0, 0), (0, 0, 1, 1)
        for state in range(3, 9):
            for text in all_texts(table, 4):
                wanted = False
                if state in states_of(table) and text:
                    bits, reached = written(table, state, text)
                    wanted = reached == state and 2 * len(bits) == len(text)
                self.check_same(self.holds((1, 2, state, text, weights)), wanted)

    def test_longest_rounds(self):
        self.check_same(self.holds((1, 2, 6, (0,) * 2000, (0, 0, 1, 1))), True)
        self.check_same(self.holds((1, 2, 6, (0,) * 2002, (0, 0, 1, 1))), False)
        self.check_same(mean_holds((9,), (9,), "most", (0, 1, 1, (9,) * 2000, (0,))), True)
        self.check_same(mean_holds((9,), (9,), "most", (0, 1, 1, (9,) * 2001, (0,))), False)

    def test_text_of_other_letters(self):
        table = (0, 1, 2, 0, 0, 0)
        state, text, weights = mean_paper(table, (0,), "least")[2:]
        told = mean_paper(table, (0,), "least")[:2]
        self.check_same(mean_holds(table, (0,), "least", (*told, state, text, weights)), True)
        for letters in ((1,), (2,), (1, 2)):
            self.check_same(mean_holds(table, letters, "least", (*told, state, text, (0,) * 6)), False)
            self.check_same(mean_holds(table, letters, "most", (*told, state, text, (0,) * 6)), False)

    def test_letters_that_are_not_told_do_not_matter(self):
        # 0 alone goes between 4 and 6; of 1, which costs more, the paper for "most" tells nothing.
        self.check_same(self.holds(self.PAPER, "most", (0,)), True)
        self.check_same(self.holds(self.PAPER, "most", (0, 1)), False)
        self.check_same(self.holds((2, 1, 5, (1,), (0,) * 4), "least", (1,)), True)
        self.check_same(self.holds((2, 1, 5, (1,), (0,) * 4), "least", (0, 1)), False)

    def test_one_thing_changed(self):
        weights = (0, 0, 1, 1)
        self.check_same(self.holds(self.PAPER), True)
        for value in (
            (2, 4, 4, (0, 0), weights), (-1, -2, 4, (0, 0), weights), (1, 1, 4, (0, 0), weights), (1, 3, 4, (0, 0), weights),
            (0, 1, 4, (0, 0), weights), (1, 0, 4, (0, 0), weights), (0, 0, 4, (0, 0), weights), (True, 2, 4, (0, 0), weights),
            (1, 2, 5, (0, 0), weights), (1, 2, 7, (0, 0), weights), (1, 2, 8, (0, 0), weights), (1, 2, 0, (0, 0), weights),
            (1, 2, 4, (0,), weights), (1, 2, 4, (), weights), (1, 2, 4, [0, 0], weights), (1, 2, 4, (0, False), weights),
            (1, 2, 4, (0, 2), weights), (1, 2, 4, (0, 0, 0), weights), (1, 2, 4, (0, 0), weights[:3]),
            (1, 2, 4, (0, 0), weights + (1,)), (1, 2, 4, (0, 0), list(weights)), (1, 2, 4, (0, 0), (0, 0, 1, True)),
            (1, 2, 4, (0, 0), (False, 0, 1, 1)), (1, 2, 4, (0, 0), (0, 0, 1, None)), (1, 2, 4, (0, 0), ()),
            (1, 2, 4, (0, 0), (0, 0, 0, 1)), (1, 2, 4, (0, 0), (0, 0, 2, 1)), (1, 2, 4, (0, 0)), self.PAPER + ((),),
            list(self.PAPER), self.PAPER[1:], self.PAPER[::-1], (), None, (1, 2), (1, 2, 4, (0, 0), None),
        ):
            self.check_same(self.holds(value), False, repr(value))

    def test_true_is_not_one(self):
        self.check_same(mean_holds((9,), (9,), "least", (0, 1, 1, (9,), (0,))), True)
        for value in ((False, 1, 1, (9,), (0,)), (0, True, 1, (9,), (0,)), (0, 1, True, (9,), (0,)),
                      (0, 1, 1, (9,), (False,)), (0, -1, 1, (9,), (0,)), (0, 2, 1, (9,), (0,))):
            self.check_same(mean_holds((9,), (9,), "least", value), False)

    def test_any_values(self):
        for value in ODD:
            wrong = [value] + [self.PAPER[:at] + (value,) + self.PAPER[at + 1:] for at in range(5)]
            wrong.append(self.PAPER[:3] + ((0, value), (0, 0, 1, 1)))
            for paper in wrong:
                for word in WORDS:
                    self.check_same(self.holds(paper, word), False)
            if value not in FAR_INTEGERS:
                self.check_same(self.holds(self.PAPER[:4] + ((0, 0, 1, value),)), False)

    def test_no_letters_of_the_table(self):
        for word in WORDS:
            for value in (None, self.PAPER, ()):
                check_no_letters(self, mean_holds, word, value)


if __name__ == "__main__":
    unittest.main()
