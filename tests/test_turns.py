"""Turns and their powers: [C1] to [C7], and [A2] (b) as far as heights tell it."""

import itertools
import unittest

from tests.model import cells_with, height_behind, states_of
from tests.support import (
    Checks, FAR_INTEGERS, ODD_TUPLES, ODD_VALUES, TURNS, drawn_tables, drawn_texts, shaped_tables, small_tables,
    small_turns,
)
from unpassed.errors import NoLetter, Unfit
from unpassed.tables import letters_of
from unpassed.turnpowers import power
from unpassed.turns import image_of, led, letter_turn, plain_turn, table_of, text_turn, then, turn_error
from unpassed.writing import bit_count, write

TABLES = small_tables() + shaped_tables() + drawn_tables(61, 40, (2, 3, 4, 5, 6, 7, 8, 9, 10, 11, 12, 31, 63, 64))


class TurnErrorTest(unittest.TestCase, Checks):
    def test_turns(self):
        for turn in TURNS:
            self.check_call(None, turn_error, many=len(turn), value=turn)
        for many in range(1, 5):
            for turn in small_turns(many):
                self.check_same(turn_error(many, turn), None)

    def test_how_many_items(self):
        for many in (1, 2, 63, 64):
            for size in (0, many - 1, many + 1, 128):
                self.check_same(turn_error(many, (0,) * size), "form" if size != many else None)

    def test_other_values(self):
        for value in ODD_VALUES + FAR_INTEGERS + (0, [0, 1], {0: 0, 1: 1}, "ab", ((0, 1),), ((0,), (1,))):
            for many in (1, 2, 5, 64):
                self.check_call("form", turn_error, many=many, value=value)

    def test_items_that_are_no_integers(self):
        for item in ODD_VALUES + ODD_TUPLES + ((), [3]):
            self.check_same(turn_error(1, (item,)), "form")
            self.check_same(turn_error(3, (0, item, 2)), "form")
            self.check_same(turn_error(3, (9, 0, item)), "form")
            self.check_same(turn_error(3, (item, 0, 99)), "form")

    def test_where_it_falls(self):
        self.check_same(turn_error(4, (3, 2, 1, 0)), ("falls", 1))
        self.check_same(turn_error(4, (0, 3, 2, 1)), ("falls", 2))
        self.check_same(turn_error(4, (0, 3, 3, 2)), ("falls", 3))
        self.check_same(turn_error(2, (0, -1)), ("falls", 1))
        self.check_same(turn_error(64, tuple(range(63)) + (61,)), ("falls", 63))
        self.check_same(turn_error(3, (0, 99, 98)), ("falls", 2))

    def test_just_a_ring_and_one_more(self):
        for many in (2, 3, 4, 12, 63, 64):
            for first in (-70, -1, 0, 1, 10 ** 30):
                self.check_same(turn_error(many, (first,) * (many - 1) + (first + many,)), None)
                self.check_same(turn_error(many, (first,) * (many - 1) + (first + many + 1,)), "passes")
        self.check_same(turn_error(3, (-10 ** 399, 0, 10 ** 399)), "passes")


class LedTest(unittest.TestCase, Checks):
    def test_a_ring_on_is_led_a_ring_on(self):
        for turn in TURNS:
            many = len(turn)
            for place in range(many):
                for whole in (-10 ** 30, -2, -1, 0, 1, 7, 10 ** 30):
                    wanted = whole * many + turn[place]
                    self.check_call(wanted, led, turn=turn, height=whole * many + place)

    def test_no_height_passes_another_one(self):
        for turn in TURNS:
            heights = [led(turn, height) for height in range(-2 * len(turn) - 3, 2 * len(turn) + 3)]
            self.assertEqual(heights, sorted(heights))

    def test_plain_turn(self):
        for many in range(1, 65):
            self.check_call(tuple(range(many)), plain_turn, many=many)
            for height in (-many - 1, -1, 0, 1, many, 10 ** 30):
                self.check_same(led(plain_turn(many), height), height)


class LetterTurnTest(unittest.TestCase, Checks):
    def test_as_writing_tells(self):
        for table in TABLES:
            for letter in letters_of(table):
                wanted = tuple([height_behind(table, state, (letter,)) for state in states_of(table)])
                self.check_call(wanted, letter_turn, table=table, letter=letter)
                self.check_same(text_turn(table, (letter,)), wanted)
                self.check_same(turn_error(len(table), wanted), None)

    def test_images_are_cells(self):
        for table in TABLES:
            places = []
            for letter in letters_of(table):
                image = image_of(letter_turn(table, letter))
                self.check_same(image, tuple(cells_with(table, letter)))
                places.extend(image)
            self.assertEqual(sorted(places), list(range(len(table))))

    def test_no_letters(self):
        for table in ((0, 1, 0, 0), (0,)):
            for value in ODD_VALUES + ODD_TUPLES + FAR_INTEGERS + (2, 25, 26, (), (0,), [0]):
                self.check_raises(NoLetter, {"given": value}, letter_turn, table, value)
                self.check_raises(NoLetter, {"given": value}, letter_turn, table=table, letter=value)


class TextTurnTest(unittest.TestCase, Checks):
    def test_as_writing_tells(self):
        for table in TABLES:
            for text in drawn_texts(62, table, (0, 1, 2, 3, 12)):
                wanted = tuple([height_behind(table, state, text) for state in states_of(table)])
                self.check_call(wanted, text_turn, table=table, text=text)
                self.check_same(turn_error(len(table), wanted), None)

    def test_long_texts(self):
        for table in shaped_tables()[::3] + [(0,) + (1,) * 63]:
            for text in drawn_texts(63, table, (1999, 2000)):
                turn = text_turn(table, text)
                for state in (len(table), 2 * len(table) - 1):
                    self.check_same(turn[state - len(table)], height_behind(table, state, text))

    def test_no_text_is_the_plain_turn(self):
        for table in shaped_tables():
            self.check_same(text_turn(table, ()), plain_turn(len(table)))

    def test_first_letter_that_the_table_has_not(self):
        for text, given in (((2,), 2), ((0, 25, 2), 25), ((1,) * 1999 + (7,), 7)):
            self.check_raises(NoLetter, {"given": given}, text_turn, (0, 1, 0, 0), text)
            self.check_raises(NoLetter, {"given": given}, text_turn, table=(0, 1), text=text)

    def test_one_text_behind_the_other(self):
        for table in TABLES:
            one, other = drawn_texts(64, table, (3, 5))
            both = then(text_turn(table, one), text_turn(table, other))
            self.check_same(text_turn(table, one + other), both)

    def test_bits_of_both_are_those_of_each_or_one_off(self):
        for table in TABLES:
            one, other = drawn_texts(65, table, (4, 9))
            for state in states_of(table):
                apart = bit_count(table, state, one) + bit_count(table, state, other)
                self.assertIn(bit_count(table, state, one + other) - apart, (-1, 0, 1))

    def test_heights_are_bits_and_states(self):
        for table in TABLES:
            for text in drawn_texts(66, table, (2, 7)):
                turn = text_turn(table, text)
                for state in states_of(table):
                    bits, reached = write(table, state, text)
                    height = turn[state - len(table)]
                    self.check_same(divmod(height, len(table)), (len(bits), reached - len(table)))


class ThenTest(unittest.TestCase, Checks):
    def test_first_one_then_other(self):
        for one in TURNS:
            for other in TURNS:
                if len(one) == len(other):
                    both = then(one, other)
                    self.check_call(both, then, one=one, other=other)
                    self.check_same(turn_error(len(one), both), None)
                    for height in range(-len(one) - 1, 2 * len(one)):
                        self.check_same(led(both, height), led(other, led(one, height)))

    def test_all_small_turns(self):
        turns = small_turns(3)
        for one in turns:
            self.check_same(then(one, plain_turn(3)), one)
            self.check_same(then(plain_turn(3), one), one)
            for other in turns[::7]:
                self.check_same(then(one, other), tuple([led(other, height) for height in one]))

    def test_image_of(self):
        for turn in TURNS + tuple(small_turns(3)):
            many = len(turn)
            wanted = tuple([place for place in range(many) if any((height - place) % many == 0 for height in turn)])
            self.check_call(wanted, image_of, turn=turn)


class PowerTest(unittest.TestCase, Checks):
    def test_few_times(self):
        for turn in TURNS + tuple(small_turns(2)) + tuple(small_turns(3)[::5]):
            wanted = plain_turn(len(turn))
            for times in range(9):
                self.check_same(power(turn, times), wanted)
                wanted = then(wanted, turn)

    def test_by_place_and_by_name(self):
        self.check_call((4, 4, 6, 6), power, turn=(2, 3, 4, 4), times=2)
        self.check_call((0, 1, 2, 3), power, turn=(2, 3, 4, 4), times=0)

    def test_powers_put_together(self):
        for turn in TURNS:
            for one, other in ((0, 0), (0, 1), (1, 1), (3, 5), (64, 63), (10 ** 29, 9 * 10 ** 29), (10 ** 30 - 1, 1)):
                both = then(power(turn, one), power(turn, other))
                self.check_same(both, power(turn, one + other))

    def test_most_times(self):
        most = 10 ** 30
        self.check_same(power((1, 2, 3), most), (most, most + 1, most + 2))
        self.check_same(power((-1, 0), most), (-most, 1 - most))
        self.check_same(power((7,), most), (7 * most,))
        self.check_same(power(plain_turn(64), most), plain_turn(64))
        half = most // 2 * 4
        self.check_same(power(letter_turn((0, 1, 0, 0), 0), most), (half, half, half + 2, half + 2))

    def test_powers_of_texts(self):
        for table in shaped_tables():
            for text in drawn_texts(67, table, (1, 3)):
                self.check_same(power(text_turn(table, text), 12), text_turn(table, text * 12))


class TableOfTest(unittest.TestCase, Checks):
    def rows_of(self, table):
        return tuple([(letter, letter_turn(table, letter)) for letter in letters_of(table)])

    def test_tables_come_back(self):
        for table in TABLES:
            self.check_call(table, table_of, value=self.rows_of(table))

    def test_rows_changed(self):
        for table in ((0, 1, 0, 0), (0, 1), (1, 2, 0), (5, 5, 5), (0,), (0, 1) * 6, (3,) * 64, (0, 2) * 32):
            rows = self.rows_of(table)
            for wrong in self.changed(rows):
                self.check_raises(Unfit, {}, table_of, wrong)

    def changed(self, rows):
        """Values that are almost rows, none of them the rows of a table."""
        yield list(rows)
        yield rows + (rows[-1],)
        yield rows + ((25, rows[-1][1]),)
        yield rows + ((),)
        for at, (letter, turn) in enumerate(rows):
            put = [(letter, turn, turn), (letter,), [letter, turn], (turn, letter), (letter, list(turn)), turn, None, letter]
            put.extend([(wrong, turn) for wrong in (-1, 26, True, False, None, "a", (letter,), 10 ** 30, [letter])])
            put.extend([(letter, wrong) for wrong in self.other_turns(turn)])
            for item in put:
                yield rows[:at] + (item,) + rows[at + 1:]
            if len(rows) > 1:
                yield rows[:at] + rows[at + 1:]
                yield rows[at:] + rows[:at] if at else rows[::-1]

    def other_turns(self, turn):
        many = len(turn)
        return [
            (), turn[1:], turn + turn[-1:], tuple([height + many for height in turn]), tuple([height - many for height in turn]),
            turn[:-1] + (True,), (False,) + turn[1:], turn[:-1] + (None,), turn[:-1] + (10 ** 30,), (turn[0] + 1,) + turn[1:],
            turn[:-1] + (turn[-1] - 1,), turn[:-1] + ("0",), turn * 2, (0,) * 65, (0,) * 2000,
        ]

    def test_values_that_are_no_rows(self):
        for value in ODD_VALUES + ODD_TUPLES + FAR_INTEGERS + ((), ((),), ((0, ()),), (0, (0,)), ((0, 0),), 0, "abaa"):
            self.check_raises(Unfit, {}, table_of, value)
        for part in ODD_VALUES + ODD_TUPLES + FAR_INTEGERS:
            for value in (((0, part),), ((part, (0,)),), ((0, (part,)),), ((0, (0, part)),), (part, (1, (0,)))):
                self.check_raises(Unfit, {}, table_of, value)

    def test_bools_are_no_numbers(self):
        self.check_same(table_of(((0, (0,)),)), (0,))
        self.check_same(table_of(((1, (0, 1)),)), (1, 1))
        for wrong in (((False, (0,)),), ((0, (False,)),), ((True, (0, 1)),), ((1, (0, True)),), ((1, (False, 1)),)):
            self.check_raises(Unfit, {}, table_of, wrong)

    def test_small_rows_just_if_they_are_of_a_table(self):
        known = {self.rows_of(table): table for size in (1, 2, 3) for table in itertools.product(range(2), repeat=size)}
        for size in (1, 2, 3):
            turns = [turn for turn in itertools.product(range(-1, 2 * size + 2), repeat=size)]
            rows = [((letter, turn),) for letter in (0, 1) for turn in turns]
            rows += [((0, one), (1, other)) for one in turns[::size] for other in turns[::size + 1]]
            for value in rows:
                if value in known:
                    self.check_same(table_of(value), known[value])
                else:
                    self.check_raises(Unfit, {}, table_of, value)

    def test_most_cells_and_one_more(self):
        self.check_same(table_of(((4, tuple(range(64))),)), (4,) * 64)
        self.check_raises(Unfit, {}, table_of, ((4, tuple(range(65))),))


if __name__ == "__main__":
    unittest.main()
