"""Two tables beside one another: [G1] to [G3], and what [G5] and [A2] (e) tell of them."""

import unittest
from fractions import Fraction

from tests.model import all_texts, excess_of, gained, is_excess_round, pairs_beside, round_of
from tests.pairs import GREAT, MIDDLE, SMALL, check_wrong_tables
from tests.support import (
    Checks, FAR_INTEGERS, ODD_TUPLES, ODD_VALUES, drawn_texts, every_table, outcome, shaped_tables, small_tables,
)
from unpassed.errors import Endless
from unpassed.joint import excess, round_holds, unlike_text
from unpassed.tables import letters_of, text_error
from unpassed.weights import excess_holds, excess_paper

ODD = ODD_VALUES + ODD_TUPLES + FAR_INTEGERS + ("round", ("round",), ["round", 5, 3, (1,)])


def costs_of(one, other, text):
    """What the text costs for ever by either table, as writing tells."""
    told = []
    for table in (one, other):
        states, bits = round_of(table, text, len(table))
        told.append(Fraction(bits, len(states)))
    return told


class ExcessTest(unittest.TestCase, Checks):
    def test_as_writing_tells(self):
        for one, other in SMALL + MIDDLE:
            self.check_excess(one, other, excess_of(one, other))
            self.check_excess(other, one, excess_of(other, one))

    def check_excess(self, one, other, wanted):
        if wanted is None:
            self.check_endless(one, other)
        else:
            self.check_call(wanted, excess, one=one, other=other)
            self.assertIn(wanted, (0, 1, 2))

    def check_endless(self, one, other):
        with self.assertRaises(Endless) as caught:
            excess(one, other)
        paper = caught.exception.paper
        word, state, place, text = paper
        self.check_same((type(paper), word, text_error(one, text)), (tuple, "round", None))
        self.assertIn((state, place), pairs_beside(one, other))
        self.assertTrue(is_excess_round(one, other, state, place, text))
        self.check_same(round_holds(one, other, paper), True)
        self.check_same(outcome(excess, one, other), outcome(excess, other=other, one=one))
        self.check_same(outcome(excess, one, other), outcome(excess_paper, one, other))

    def test_no_text_gains_more_and_some_gains_as_much(self):
        for one, other in SMALL[::4]:
            told = outcome(excess, one, other)
            if told[0] == "returned":
                gains = [gained(one, other, pair, text)[0]
                         for pair in pairs_beside(one, other) for text in all_texts(one, 4)]
                self.assertLessEqual(max(gains), told[1])

    def test_greatest_tables(self):
        kinds = []
        for pair in GREAT:
            for one, other in (pair, pair[::-1]):
                self.assertLessEqual(len(one) * len(other) * len(letters_of(one)), 2000)
                told = self.check_quick(outcome, excess, one, other)
                kinds.append(told[1])
                if told[0] == "returned":
                    self.check_same(excess_holds(one, other, excess_paper(one, other)), True)
                    self.assertEqual(excess_paper(one, other)[0], told[1])
                else:
                    self.check_endless(one, other)
        self.assertIn("Endless", kinds)
        self.assertIn(2, kinds)

    def test_told_just_if_no_text_costs_more(self):
        for one, other in SMALL[::3] + MIDDLE[::3]:
            costs = [costs_of(one, other, text) for text in all_texts(one, 4)[1:]]
            if outcome(excess, one, other)[0] == "returned":
                self.assertFalse([pair for pair in costs if pair[0] > pair[1]])

    def test_with_itself(self):
        for table in small_tables() + [table for table in shaped_tables() if len(table) <= 12]:
            if len(table) ** 2 * len(letters_of(table)) <= 2000:
                self.assertIn(excess(table, table), (0, 1))
                self.check_same(unlike_text(table, table), None)

    def test_three_tables(self):
        tables = [table for table in every_table(4, (0, 1)) if len(set(table)) == 2] + [(0, 1), (0, 0, 1), (1, 0, 0)]
        told = {(one, other): outcome(excess, one, other) for one in tables for other in tables}
        for one in tables:
            for other in tables:
                for third in tables:
                    rows = [told[pair] for pair in ((one, third), (one, other), (other, third))]
                    if [row for row in rows[1:] if row[0] != "returned"] == []:
                        self.assertLessEqual(rows[0][1], rows[1][1] + rows[2][1])

    def test_edges(self):
        self.check_same(excess((9,), (9,)), 0)
        self.check_same(excess((9,) * 44, (9,) * 45), 0)
        self.check_same(excess((9,), (9,) * 64), 0)
        self.check_same(excess((0, 1), (1, 0) * 32), 0)
        self.check_same(excess((0, 1) * 4, (1, 0) * 32), 0)

    def test_wrong_tables(self):
        check_wrong_tables(self, excess)


class RoundHoldsTest(unittest.TestCase, Checks):
    def test_as_writing_tells(self):
        for one, other in SMALL[::25]:
            for state, place in pairs_beside(one, other):
                for text in all_texts(one, 3):
                    wanted = is_excess_round(one, other, state, place, text)
                    self.check_same(round_holds(one, other, ("round", state, place, text)), wanted)

    def test_by_place_and_by_name(self):
        self.check_call(True, round_holds, one=(0, 0, 1), other=(0, 1), value=("round", 5, 3, (1,)))
        self.check_call(False, round_holds, one=(0, 1), other=(0, 0, 1), value=("round", 3, 5, (1,)))
        self.check_call(False, round_holds, one=(0, 0, 1), other=(0, 1), value=None)

    def test_one_thing_changed(self):
        one, other = (0, 0, 1), (0, 1)
        self.check_same(round_holds(one, other, ("round", 5, 3, (1,))), True)
        for value in (
            ("rounds", 5, 3, (1,)), ("", 5, 3, (1,)), (None, 5, 3, (1,)), (b"round", 5, 3, (1,)), (("round",), 5, 3, (1,)),
            ("round", 4, 3, (1,)), ("round", 5, 2, (1,)), ("round", 3, 5, (1,)), ("round", 6, 3, (1,)),
            ("round", 5, 4, (1,)), ("round", 5, 3, (0,)), ("round", 5, 3, ()), ("round", 5, 3, [1]),
            ("round", 5, 3, (True,)), ("round", 5, 3, (2,)), ("round", 5, 3, (1, 2)), ("round", 5, 3, 1),
            ("round", 5, 3), ("round", 5, 3, (1,), ()), (5, 3, (1,)), ["round", 5, 3, (1,)], "round", (), ("round",) * 4,
            ("round", 2, 0, (1,)), ("round", -1, 3, (1,)), ("round", 5, -1, (1,)),
        ):
            self.check_same(round_holds(one, other, value), False, repr(value))

    def test_longest_texts(self):
        one, other = (0, 0, 1), (0, 1)
        self.check_same(round_holds(one, other, ("round", 5, 3, (1,) * 2000)), True)
        self.check_same(round_holds(one, other, ("round", 5, 3, (1,) * 2001)), False)
        self.check_same(round_holds(one, other, ("round", 5, 3, (0,) * 2000)), False)

    def test_what_gains_nothing_is_none(self):
        self.check_same(round_holds((0, 1), (0, 1), ("round", 3, 3, (1,))), False)
        self.check_same(round_holds((9,), (9,), ("round", 1, 1, (9,))), False)
        self.check_same(round_holds((9,), (9,), ("round", True, 1, (9,))), False)

    def test_true_is_not_one(self):
        one, other = (0, 1, 1, 1), (0, 0, 0, 1)
        paper = ("round", 4, 4, (0,))
        self.check_same(round_holds(one, other, paper), is_excess_round(one, other, *paper[1:]))
        self.check_same(round_holds(one, other, ("round", 4, 4, (False,))), False)

    def test_any_values(self):
        one, other = (0, 0, 1), (0, 1)
        for value in ODD:
            self.check_same(round_holds(one, other, value), False)
            if value != "round":
                self.check_same(round_holds(one, other, (value, 5, 3, (1,))), False)
            self.check_same(round_holds(one, other, ("round", value, 3, (1,))), False)
            self.check_same(round_holds(one, other, ("round", 5, value, (1,))), False)
            self.check_same(round_holds(one, other, ("round", 5, 3, value)), False)
            self.check_same(round_holds(one, other, ("round", 5, 3, (1, value))), False)

    def test_rounds_with_more_letters(self):
        for one, other in MIDDLE:
            told = outcome(excess, one, other)
            if told[0] == "raised":
                _, state, place, text = told[2]["paper"]
                self.check_same(round_holds(one, other, ("round", state, place, text * 2)), True)
                self.check_same(round_holds(one, other, ("round", state, place, text + text[:1] * 2000)), False)

    def test_wrong_tables(self):
        for value in (None, ("round", 5, 3, (1,)), (), 0):
            check_wrong_tables(self, round_holds, value)


class UnlikeTest(unittest.TestCase, Checks):
    def test_as_excess_tells_both_ways_round(self):
        for one, other in SMALL + MIDDLE:
            self.check_unlike(one, other)

    def check_unlike(self, one, other):
        text = unlike_text(one, other)
        told = outcome(excess, one, other)[0], outcome(excess, other, one)[0]
        self.assertEqual(text is None, told == ("returned", "returned"))
        self.check_call(text, unlike_text, one=one, other=other)
        self.check_text(one, other, text)

    def check_text(self, one, other, text):
        if text is not None:
            self.check_same(text_error(one, text), None)
            self.assertTrue(text)
            costs = costs_of(one, other, text)
            self.assertNotEqual(costs[0], costs[1])

    def test_where_there_is_none_all_texts_cost_alike(self):
        for one, other in SMALL:
            if unlike_text(one, other) is None:
                for text in drawn_texts(151, one, (1, 2, 3, 4, 5, 20)):
                    costs = costs_of(one, other, text)
                    self.assertEqual(costs[0], costs[1])

    def test_greatest_tables(self):
        for pair in GREAT:
            for one, other in (pair, pair[::-1]):
                self.check_text(one, other, self.check_quick(unlike_text, one, other))

    def test_edges(self):
        self.check_same(unlike_text((9,), (9,) * 64), None)
        self.check_same(unlike_text((9,) * 44, (9,) * 45), None)
        self.check_same(unlike_text((0, 1), (0, 1) * 32), None)
        self.check_same(unlike_text((0, 1), (1, 1, 0, 0)), None)

    def test_wrong_tables(self):
        check_wrong_tables(self, unlike_text)


if __name__ == "__main__":
    unittest.main()
