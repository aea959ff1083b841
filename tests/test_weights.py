"""Papers of what one table costs more than another one: [G4], and what [G5] tells of them."""

import itertools
import unittest

from tests.model import all_texts, gained, is_excess_paper, pairs_beside
from tests.pairs import GREAT, MIDDLE, SMALL, check_wrong_tables
from tests.support import Checks, FAR_INTEGERS, ODD_TUPLES, ODD_VALUES, outcome
from unpassed.errors import Endless
from unpassed.joint import excess, round_holds
from unpassed.tables import text_error
from unpassed.weights import excess_holds, excess_paper

ODD = ODD_VALUES + ODD_TUPLES + FAR_INTEGERS
TOLD = [(one, other) for pair in SMALL + MIDDLE for one, other in (pair, pair[::-1])
        if outcome(excess, one, other)[0] == "returned"]


class PaperTest(unittest.TestCase, Checks):
    def test_they_hold(self):
        for one, other in TOLD:
            paper = excess_paper(one, other)
            self.check_paper(one, other, paper)
            self.check_call(paper, excess_paper, one=one, other=other)

    def check_paper(self, one, other, paper):
        most, rows, (state, place, text) = paper
        self.check_same(most, excess(one, other))
        self.check_same((type(paper), type(rows), type(paper[2])), (tuple, tuple, tuple))
        self.check_same([(type(row), len(row)) for row in rows], [(tuple, len(other))] * len(one))
        self.assertEqual({type(weight) for row in rows for weight in row}, {int})
        self.assertIn((state, place), pairs_beside(one, other))
        self.check_same(text_error(one, text), None)
        self.assertLess(len(text), len(one) * len(other))
        self.assertTrue(is_excess_paper(one, other, *paper))
        self.check_same(excess_holds(one, other, paper), True)

    def test_endless(self):
        for pair in SMALL + MIDDLE:
            for one, other in (pair, pair[::-1]):
                told = outcome(excess, one, other)
                if told[0] == "raised":
                    self.check_same(outcome(excess_paper, one, other), told)
                    self.check_raises(Endless, told[2], excess_paper, one, other)
                    self.check_same(round_holds(one, other, told[2]["paper"]), True)
                    self.check_same(excess_holds(one, other, told[2]["paper"]), False)

    def test_greatest_tables(self):
        for pair in GREAT:
            for one, other in (pair, pair[::-1]):
                told = self.check_quick(outcome, excess_paper, one, other)
                if told[0] == "returned":
                    self.check_paper(one, other, told[1])
                    self.check_same(self.check_quick(excess_holds, one, other, told[1]), True)
                else:
                    self.check_same(round_holds(one, other, told[2]["paper"]), True)

    def test_edges(self):
        most, rows, way = excess_paper((9,) * 44, (9,) * 45)
        self.check_same((most, rows, way[2]), (0, ((0,) * 45,) * 44, ()))
        self.check_same(excess_paper((9,), (9,)), (0, ((0,),), (1, 1, ())))

    def test_wrong_tables(self):
        check_wrong_tables(self, excess_paper)


class HoldsTest(unittest.TestCase, Checks):
    def test_by_place_and_by_name(self):
        rows = ((1, 0, 1), (0, 0, 1), (0, 1, 0))
        tables = {"one": (0, 0, 1), "other": (0, 1, 0)}
        self.check_call(True, excess_holds, **tables, value=(1, rows, (4, 3, (0,))))
        self.check_call(False, excess_holds, **tables, value=(1, rows, (4, 4, (0,))))
        self.check_call(False, excess_holds, **tables, value=[1, rows, (4, 3, (0,))])

    def test_weights_changed(self):
        for one, other in TOLD[::3]:
            most, rows, way = excess_paper(one, other)
            for at, place in itertools.product(range(len(one)), range(len(other))):
                for weight in (rows[at][place] + 1, rows[at][place] - 1, 0, most, most + 1):
                    row = rows[at][:place] + (weight,) + rows[at][place + 1:]
                    changed = rows[:at] + (row,) + rows[at + 1:]
                    wanted = is_excess_paper(one, other, most, changed, way)
                    self.check_same(excess_holds(one, other, (most, changed, way)), wanted)

    def test_small_weights_just_if_they_hold(self):
        one, other = (0, 1), (1, 0)
        for most in (0, 1, 2):
            for weights in itertools.product(range(-1, 3), repeat=4):
                rows = (weights[:2], weights[2:])
                for text in ((), (0,), (1, 0)):
                    value = (most, rows, (2, 3, text))
                    self.check_same(excess_holds(one, other, value), is_excess_paper(one, other, *value))

    def test_another_most(self):
        for one, other in TOLD[::2]:
            most, rows, way = excess_paper(one, other)
            for wrong in (most - 1, most + 1, -1, most + 10 ** 30):
                self.check_same(excess_holds(one, other, (wrong, rows, way)), False)
            # Too great a bound on the weights does not hold without a text that gains it.
            more = tuple([tuple([weight + 1 for weight in row]) for row in rows])
            self.check_same(excess_holds(one, other, (most + 1, more, way)), False)
            self.check_same(excess_holds(one, other, (most, more, way)), is_excess_paper(one, other, most, more, way))

    def test_other_ways(self):
        for one, other in TOLD[::5]:
            most, rows, _ = excess_paper(one, other)
            for pair in pairs_beside(one, other):
                for text in all_texts(one, 2):
                    wanted = gained(one, other, pair, text)[0] == most
                    self.check_same(excess_holds(one, other, (most, rows, (*pair, text))), wanted)

    def test_longest_ways(self):
        one, other = (0, 1), (0, 0, 1, 1)
        rows = ((0,) * 4,) * 2
        self.check_same(excess_holds(one, other, (0, rows, (2, 7, (1,) * 2000))), True)
        self.check_same(excess_holds(one, other, (0, rows, (2, 7, (1,) * 2001))), False)

    def test_one_thing_changed(self):
        one, other = (0, 0, 1), (0, 1, 0)
        rows, way = ((1, 0, 1), (0, 0, 1), (0, 1, 0)), (4, 3, (0,))
        self.check_same(excess_holds(one, other, (1, rows, way)), True)
        for value in (
            (1, rows), (1, rows, way, ()), (1, rows, (4, 3)), (1, rows, (4, 3, (0,), 0)), (1, rows, [4, 3, (0,)]),
            (1, rows, (4, 3, [0])), (1, rows, (4, 3, ())), (1, rows, (3, 4, (0,))), (1, rows, (4, 6, (0,))),
            (1, rows, (6, 3, (0,))), (1, rows, (2, 3, (0,))), (1, rows, (4, 2, (0,))), (1, rows, (4, 3, (0, 2))),
            (1, rows, (4, 3, (False,))), (1, rows, None), (1, list(rows), way), (1, rows[:2], way),
            (1, rows + rows[:1], way), (1, (rows[0], rows[1], list(rows[2])), way), (1, (rows[0], rows[1], (0, 1)), way),
            (1, (rows[0], rows[1], (0, 1, 0, 0)), way), (1, rows[::-1], way), (True, rows, way), (1, (), way),
            (1, (rows[0], rows[1], (0, True, 0)), way), (1, (rows[0], rows[1], (False, 1, 0)), way),
            (1, (rows[0], rows[1], (0, 2, 0)), way), (1, (rows[0], rows[1], (0, 1, -1)), way), (1, ((1, 1, 1),) * 2, way),
            ("1", rows, way), (1, (rows[0], rows[1], ("0", 1, 0)), way), (rows, 1, way), (way, rows, 1), (1, 1, 1),
        ):
            self.check_same(excess_holds(one, other, value), False, repr(value))

    def test_true_is_not_one(self):
        self.check_same(excess_holds((9,), (9,), (0, ((0,),), (1, 1, (9,)))), True)
        for value in ((False, ((0,),), (1, 1, ())), (0, ((False,),), (1, 1, ())), (0, ((0,),), (True, 1, ())),
                      (0, ((0,),), (1, True, ())), (0, ((0,),), (1, 1, [])), (0, (0,), (1, 1, ())), (0, 0, (1, 1, ()))):
            self.check_same(excess_holds((9,), (9,), value), False)

    def test_any_values(self):
        one, other = (0, 0, 1), (0, 1, 0)
        rows, way = ((1, 0, 1), (0, 0, 1), (0, 1, 0)), (4, 3, (0,))
        for value in ODD:
            for wrong in (value, (value, rows, way), (1, value, way), (1, rows, value), (1, rows, (value, 3, (0,))),
                          (1, rows, (4, value, (0,))), (1, rows, (4, 3, value)), (1, rows, (4, 3, (value,))),
                          (1, rows[:2] + (value,), way), (1, rows[:2] + ((0, 1, value),), way)):
                self.check_same(excess_holds(one, other, wrong), False)

    def test_wrong_tables(self):
        for value in (None, (0, ((0,),), (1, 1, ())), ()):
            check_wrong_tables(self, excess_holds, value)


if __name__ == "__main__":
    unittest.main()
