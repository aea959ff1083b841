"""Rounds, tails and the bits of so many times: rounds and turn_rounds of [D3], [D4], and [D5]."""

import unittest
from fractions import Fraction

from tests.model import round_of, states_of, walked, written
from tests.support import (
    Checks, FAR_INTEGERS, ODD_TUPLES, ODD_VALUES, TURNS, drawn_tables, drawn_texts, shaped_tables, small_tables,
    small_turns,
)
from unpassed.costs import cost, turn_cost
from unpassed.errors import NoState
from unpassed.rounds import bits_for, rounds, tail, turn_rounds
from unpassed.turns import led, text_turn

TABLES = small_tables()[::3] + shaped_tables() + drawn_tables(81, 30, (2, 3, 4, 5, 6, 7, 9, 12, 31, 64))
NO_STATES = ODD_VALUES + ODD_TUPLES + FAR_INTEGERS + ((), (4,), [4], "4", {4: 4}, 3, 8, 0)
MOST = 10 ** 30


def turn_round(turn, place):
    """The round into which the turn leads place, from its least place on."""
    places = [place]
    while turn[places[-1]] % len(turn) not in places:
        places.append(turn[places[-1]] % len(turn))
    places = places[places.index(turn[places[-1]] % len(turn)):]
    first = places.index(min(places))
    return tuple(places[first:] + places[:first])


class RoundsTest(unittest.TestCase, Checks):
    def test_as_writing_tells(self):
        for table in TABLES:
            for text in drawn_texts(82, table, (1, 2, 3, 9)):
                wanted = tuple(sorted({round_of(table, text, state)[0] for state in states_of(table)}))
                self.check_call(wanted, rounds, table=table, text=text)

    def test_any_turns(self):
        for turn in TURNS + tuple(small_turns(2)) + tuple(small_turns(3)) + tuple(small_turns(4)[::7]):
            wanted = tuple(sorted({turn_round(turn, place) for place in range(len(turn))}))
            self.check_call(wanted, turn_rounds, turn=turn)
            _, below = turn_cost(turn)
            self.assertEqual({len(places) for places in wanted}, {below})

    def test_some_turns(self):
        for turn, wanted in (
            ((0,), ((0,),)), ((-9,), ((0,),)), ((1, 2), ((0, 1),)), ((-1, 0), ((0, 1),)), ((0, 2), ((0,),)),
            ((3, 3), ((1,),)), (tuple(range(64)), tuple([(place,) for place in range(64)])),
            (tuple(range(-1, 63)), ((0, *range(63, 0, -1)),)), (tuple(range(MOST, MOST + 3)), ((0, 1, 2),)),
            (tuple(range(2, 8)), ((0, 2, 4), (1, 3, 5))), (tuple(range(-2, 4)), ((0, 4, 2), (1, 5, 3))),
        ):
            self.check_call(wanted, turn_rounds, turn=turn)

    def test_all_rounds_have_as_many_states_and_cost_the_same(self):
        for table in TABLES:
            for text in drawn_texts(83, table, (1, 4)):
                above, below = cost(table, text)
                for states in rounds(table, text):
                    self.assertEqual(len(states), below)
                    self.assertEqual(states[0], min(states))
                    self.check_same(round_of(table, text, states[-1]), (states, above))

    def test_one_cell_and_letters_alone(self):
        self.check_same(rounds((9,), (9,)), ((1,),))
        self.check_same(rounds((9,) * 64, (9,) * 2000), tuple([(state,) for state in range(64, 128)]))

    def test_one_long_round(self):
        self.check_same(rounds((0,) * 63 + (1,), (0,)), (tuple(range(64, 127)),))
        self.check_same(rounds((0,) * 63 + (1,), (1,)), ((127,),))

    def test_longest_texts_of_the_greatest_tables(self):
        for table in (tuple(range(26)) * 2 + tuple(range(12)), (0, 1) * 32, (0,) * 63 + (1,)):
            text = drawn_texts(84, table, (2000,))[0]
            told = self.check_quick(rounds, table, text)
            self.assertIn(round_of(table, text, len(table))[0], told)


class TailTest(unittest.TestCase, Checks):
    def test_as_writing_tells(self):
        for table in TABLES:
            for text in drawn_texts(85, table, (1, 2, 5)):
                for state in states_of(table)[:9]:
                    _, bits, at = walked(table, text, state)
                    wanted = (at, sum(bits[:at]))
                    self.check_call(wanted, tail, table=table, text=text, state=state)

    def test_it_is_nothing_just_in_rounds(self):
        for table in TABLES:
            for text in drawn_texts(86, table, (1, 3)):
                within = [state for states in rounds(table, text) for state in states]
                for state in states_of(table):
                    times, bits = tail(table, text, state)
                    self.assertEqual(times == 0, state in within)
                    more, reached = bits_for(table, state, text, times)
                    self.assertEqual(bits, more)
                    self.assertIn(reached, within)

    def test_long_tails(self):
        table = (0,) * 31 + (1,) * 33
        for state in states_of(table):
            _, bits, at = walked(table, (0,), state)
            self.check_same(tail(table, (0,), state), (at, sum(bits[:at])))

    def test_one_cell_and_letters_alone(self):
        self.check_same(tail((9,), (9,), 1), (0, 0))
        self.check_same(tail((9,) * 64, (9,) * 2000, 127), (0, 0))

    def test_longest_texts(self):
        for table in (tuple(range(26)) * 2 + tuple(range(12)), (0,) * 63 + (1,)):
            text = drawn_texts(87, table, (2000,))[0]
            _, bits, at = walked(table, text, 127)
            self.check_same(self.check_quick(tail, table, text, 127), (at, sum(bits[:at])))

    def test_no_states(self):
        for table in ((0, 1, 0, 0), (0, 0, 0, 1)):
            for value in NO_STATES:
                self.check_raises(NoState, {"given": value}, tail, table, (0,), value)
                self.check_raises(NoState, {"given": value}, tail, table=table, text=(1, 0), state=value)
        self.check_raises(NoState, {"given": True}, tail, (9,), (9,), True)
        self.check_raises(NoState, {"given": 2}, tail, (9,), (9,), 2)


class BitsForTest(unittest.TestCase, Checks):
    def test_as_writing_tells(self):
        for table in TABLES:
            for text in drawn_texts(88, table, (1, 3)):
                for state in states_of(table)[::5]:
                    for times in (0, 1, 2, 3, 10):
                        bits, reached = written(table, state, text * times)
                        wanted = (len(bits), reached)
                        self.check_call(wanted, bits_for, table=table, state=state, text=text, times=times)

    def test_most_times(self):
        for table in TABLES:
            for text in drawn_texts(89, table, (1, 6)):
                above, below = cost(table, text)
                for state in (len(table), 2 * len(table) - 1):
                    for times in (MOST, MOST - 1, 7 ** 35):
                        bits, reached = bits_for(table, state, text, times)
                        self.assertLessEqual(abs(bits - Fraction(times * above, below)), 1)
                        self.check_same((bits, reached), self.by_rounds(table, state, text, times))

    def by_rounds(self, table, state, text, times):
        """The bits and the state, by going through the tail once and then round and round."""
        states, bits, at = walked(table, text, state)
        whole, rest = divmod(times - at, len(states) - at)
        return sum(bits[:at]) + whole * sum(bits[at:]) + sum(bits[at:at + rest]), states[at + rest]

    def test_never(self):
        for table in shaped_tables():
            for state in states_of(table):
                self.check_same(bits_for(table, state, (table[0],), 0), (0, state))

    def test_one_part_behind_the_other(self):
        for table in TABLES[::3]:
            for text in drawn_texts(90, table, (2,)):
                for one, other in ((0, 5), (1, 1), (10 ** 29, 9 * 10 ** 29), (MOST - 1, 1)):
                    bits, middle = bits_for(table, len(table), text, one)
                    more, last = bits_for(table, middle, text, other)
                    self.check_same(bits_for(table, len(table), text, one + other), (bits + more, last))

    def test_one_cell_and_letters_alone(self):
        self.check_same(bits_for((9,), 1, (9,), MOST), (0, 1))
        self.check_same(bits_for((9,) * 64, 127, (9,) * 2000, MOST), (0, 127))

    def test_longest_texts_most_times(self):
        for table in (tuple(range(26)) * 2 + tuple(range(12)), (0,) * 63 + (1,), (0, 1) * 32):
            text = drawn_texts(91, table, (2000,))[0]
            told = self.check_quick(bits_for, table, 127, text, MOST)
            self.check_same(told, self.by_rounds(table, 127, text, MOST))

    def test_some_more_times_than_the_most(self):
        self.check_same(bits_for((0, 1), 2, (1,), MOST + 1), (MOST + 1, 3))

    def test_no_states(self):
        for table in ((0, 1, 0, 0), (0, 0, 0, 1)):
            for value in NO_STATES:
                for times in (0, 1, MOST):
                    self.check_raises(NoState, {"given": value}, bits_for, table, value, (0,), times)
        self.check_raises(NoState, {"given": True}, bits_for, table=(9,), state=True, text=(9,), times=1)

    def test_heights(self):
        for table in TABLES[::5]:
            text = drawn_texts(92, table, (3,))[0]
            for state in states_of(table):
                height = led(text_turn(table, text), state - len(table))
                bits, reached = bits_for(table, state, text, 1)
                self.check_same(height, bits * len(table) + reached - len(table))


if __name__ == "__main__":
    unittest.main()
