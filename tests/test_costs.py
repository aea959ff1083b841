"""Costs: [D2], cost_holds of [D3], and what [D5] and [A2] (c) tell of costs."""

import itertools
import unittest
from fractions import Fraction

from tests.model import round_of, states_of
from tests.support import (
    Checks, FAR_INTEGERS, ODD_TUPLES, ODD_VALUES, TURNS, drawn_tables, drawn_texts, shaped_tables, small_tables,
    small_turns,
)
from unpassed.costs import cost, cost_holds, turn_cost
from unpassed.errors import NoLetter
from unpassed.rounds import rounds
from unpassed.tables import letters_of
from unpassed.turns import led, plain_turn, text_turn, then
from unpassed.turnpowers import power
from unpassed.writing import bit_count

TABLES = small_tables()[::3] + shaped_tables() + drawn_tables(71, 30, (2, 3, 4, 5, 6, 7, 9, 12, 31, 64))
ODD = ODD_VALUES + ODD_TUPLES + FAR_INTEGERS


def pair_of(fraction):
    return fraction.numerator, fraction.denominator


def cost_by_turning(turn, place):
    """The cost that the heights tell to which the turn leads place, till one stands at a place that was there ahead."""
    heights = [place]
    while len({height % len(turn) for height in heights}) == len(heights):
        heights.append(led(turn, heights[-1]))
    at = [height % len(turn) for height in heights].index(heights[-1] % len(turn))
    return pair_of(Fraction((heights[-1] - heights[at]) // len(turn), len(heights) - 1 - at))


class CostTest(unittest.TestCase, Checks):
    def test_as_writing_tells_from_each_state(self):
        for table in TABLES:
            for text in drawn_texts(72, table, (1, 2, 3, 7)):
                for state in (states_of(table) if len(table) < 12 else (len(table), 2 * len(table) - 1)):
                    states, bits = round_of(table, text, state)
                    wanted = pair_of(Fraction(bits, len(states)))
                    self.check_same(cost(table, text), wanted)
                self.check_call(wanted, cost, table=table, text=text)
                self.check_same(turn_cost(text_turn(table, text)), wanted)

    def test_it_is_the_least_power_that_leads_on_whole_turns(self):
        for table in TABLES[::3]:
            for text in drawn_texts(73, table, (1, 4)):
                self.check_cost_of(text_turn(table, text))
        for turn in TURNS:
            self.check_cost_of(turn)

    def check_cost_of(self, turn):
        """Just that many times, and not fewer, lead some height to one so many turns on."""
        many = len(turn)
        p, q = turn_cost(turn)
        self.assertLessEqual(q, many)
        self.assertTrue([h for h in range(many) if led(power(turn, q), h) == h + p * many])
        for fewer in range(1, q):
            self.assertFalse([h for h in range(many) if (led(power(turn, fewer), h) - h) % many == 0])

    def test_any_turns(self):
        for turn in TURNS + tuple(small_turns(2)) + tuple(small_turns(3)) + tuple(small_turns(4)[::7]):
            for place in range(len(turn)):
                self.check_same(turn_cost(turn), cost_by_turning(turn, place))

    def test_some_turns(self):
        most = 10 ** 30
        for turn, wanted in (
            ((0,), (0, 1)), ((7,), (7, 1)), ((-7,), (-7, 1)), ((0, 2), (0, 1)), ((1, 2), (1, 2)), ((-1, 0), (-1, 2)),
            ((-3, -3, -2, -1), (-1, 1)), ((3, 3), (1, 1)), (tuple(range(1, 65)), (1, 64)),
            (tuple(range(-1, 63)), (-1, 64)), (tuple(range(2, 66)), (1, 32)), (tuple(range(27, 91)), (27, 64)),
            (tuple(range(most + 1, most + 65)), (Fraction(most + 1, 64).numerator, Fraction(most + 1, 64).denominator)),
        ):
            self.check_call(wanted, turn_cost, turn=turn)
        for many in (1, 2, 64):
            self.check_same(turn_cost(plain_turn(many)), (0, 1))

    def test_longest_texts_of_the_greatest_tables(self):
        for table in (tuple(range(26)) * 2 + tuple(range(12)), (0,) * 63 + (1,), (0, 1) * 32, (3,) * 64):
            text = drawn_texts(74, table, (2000,))[0]
            states, bits = round_of(table, text, len(table))
            told = self.check_quick(cost, table, text)
            self.check_same(told, pair_of(Fraction(bits, len(states))))
            self.assertIs(cost_holds(table, text, (*told, states)), True)

    def test_more_letters_than_a_text_has(self):
        self.check_same(cost((0, 1), (1,) * 2001), (2001, 1))

    def test_one_cell_and_letters_alone(self):
        for many in (1, 2, 3, 63, 64):
            for letters in (1, 2, 2000):
                self.check_same(cost((25,) * many, (25,) * letters), (0, 1))

    def test_nothing_is_free_beside_another_letter(self):
        for table in TABLES:
            for letter in letters_of(table):
                above, below = cost(table, (letter,))
                self.assertEqual(above == 0, len(letters_of(table)) == 1)
                self.assertGreaterEqual(above, 0)
                self.assertGreaterEqual(below, 1)

    def test_a_letter_the_more_cells_has(self):
        self.check_same([cost((0,) * many + (1,), (0,)) for many in range(1, 8)], [(1, many) for many in range(1, 8)])
        self.check_same([cost((1,) + (0,) * many, (1,)) for many in (1, 3, 7, 15, 31, 63)],
                        [(many, 1) for many in (1, 2, 3, 4, 5, 6)])


class LawsTest(unittest.TestCase, Checks):
    def fractions(self, table, *texts):
        return [Fraction(*cost(table, text)) for text in texts]

    def test_two_texts_either_way_about(self):
        for table in TABLES:
            one, other = drawn_texts(75, table, (2, 5))
            both, turned, first, second = self.fractions(table, one + other, other + one, one, other)
            self.assertEqual(both, turned)
            self.assertLessEqual(abs(both - first - second), 1)

    def test_a_text_so_many_times(self):
        for table in TABLES:
            text = drawn_texts(76, table, (3,))[0]
            for many in (1, 2, 5):
                self.assertEqual(Fraction(*cost(table, text * many)), many * Fraction(*cost(table, text)))

    def test_bits_differ_from_costs_by_one_at_most(self):
        for table in TABLES:
            text = drawn_texts(77, table, (4,))[0]
            for state in (len(table), 2 * len(table) - 1):
                for many in (0, 1, 2, 9):
                    off = bit_count(table, state, text * many) - many * Fraction(*cost(table, text))
                    self.assertLessEqual(abs(off), 1)

    def test_powers_of_turns(self):
        for turn in TURNS:
            for times in (1, 2, 7, 10 ** 9):
                self.assertEqual(Fraction(*turn_cost(power(turn, times))), times * Fraction(*turn_cost(turn)))
        for one, other in itertools.product(small_turns(3)[::5], repeat=2):
            self.assertEqual(turn_cost(then(one, other)), turn_cost(then(other, one)))


class CostHoldsTest(unittest.TestCase, Checks):
    def test_each_round_from_each_of_its_states(self):
        for table in TABLES:
            for text in drawn_texts(78, table, (1, 2, 6)):
                told = cost(table, text)
                for states in rounds(table, text):
                    for at in range(len(states)):
                        self.check_same(cost_holds(table, text, (*told, states[at:] + states[:at])), True)

    def test_by_place_and_by_name(self):
        self.check_call(True, cost_holds, table=(0, 1, 0, 0), text=(0,), value=(1, 2, (6, 4)))
        self.check_call(False, cost_holds, table=(0, 1, 0, 0), text=(0,), value=(1, 2, (6, 5)))
        self.check_call(True, cost_holds, table=(7,), text=(7,) * 2000, value=(0, 1, (1,)))

    def test_one_thing_changed(self):
        for table, text in (((0, 1, 0, 0), (0,)), ((0, 0, 0, 1), (0,)), ((0, 1, 0, 1), (0,)), ((5, 5, 5), (5,)),
                            ((0,) * 7 + (1,) * 5, (0, 0, 1)), ((9,), (9, 9)), ((0, 0, 1), (1, 0, 0))):
            above, below = cost(table, text)
            for states in rounds(table, text):
                self.assertIs(cost_holds(table, text, (above, below, states)), True)
                for value in self.changed(above, below, states):
                    self.check_same(cost_holds(table, text, value), False, repr(value))

    def changed(self, above, below, states):
        yield from ((above + 1, below, states), (above, below + 1, states), (-above - 1, below, states))
        yield from ((2 * above, 2 * below, states), (-above, -below, states), (above, below), (above, below, states, 0))
        yield from ([above, below, states], (above, below, list(states)), (above, below, ()), (below, above, states * 2))
        yield from ((above, below, states * 2), (above, below, states + states[:1]), (above, below, states + (0,)))
        yield from ((above, below, states[:-1]), (above, below, tuple([state + 1 for state in states]) + states))
        if len(states) > 2:
            yield above, below, states[::-1]
        if len(states) > 1:
            yield above, below, states[:1] * len(states)

    def test_states_of_another_round_are_not_let_in(self):
        table = (0, 1, 0, 1)
        self.check_same(rounds(table, (0,)), ((4,), (6,)))
        for states in ((4, 6), (6, 4), (5,), (7,), (3,), (8,), (4, 4), (0,), (2,)):
            self.check_same(cost_holds(table, (0,), (1, 1, states)), False)
        for states in ((4,), (6,)):
            self.check_same(cost_holds(table, (0,), (1, 1, states)), True)

    def test_any_values(self):
        for value in ODD:
            self.check_same(cost_holds((9,), (9,), value), False)
            self.check_same(cost_holds((9,), (9,), (value, 1, (1,))), False)
            self.check_same(cost_holds((9,), (9,), (0, value, (1,))), False)
            self.check_same(cost_holds((9,), (9,), (0, 1, value)), False)
            self.check_same(cost_holds((9,), (9,), (0, 1, (value,))), False)
            self.check_same(cost_holds((0, 1, 0, 0), (0,), (1, 2, (4, value))), False)
            self.check_same(cost_holds((0, 1, 0, 0), (0,), (1, 2, (value, 4))), False)
        self.check_same(cost_holds((0, 1), (1,), (1, 1, (3,) * 12000)), False)

    def test_true_is_not_one(self):
        self.check_same(cost_holds((9,), (9,), (0, 1, (1,))), True)
        for value in ((0, True, (1,)), (False, 1, (1,)), (0, 1, (True,)), (False, True, (True,))):
            self.check_same(cost_holds((9,), (9,), value), False)

    def test_an_error_is_a_value(self):
        self.check_same(cost_holds((9,), (9,), NoLetter((0, 1, (1,)))), False)


if __name__ == "__main__":
    unittest.main()
