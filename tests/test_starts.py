"""Starts: [E1] to [E4], and what [E7] and [A2] (b) tell of them."""

import unittest

from tests.model import all_texts, least_letters, states_of, written
from tests.support import (
    Checks, FAR_INTEGERS, ODD_TUPLES, ODD_VALUES, drawn_tables, drawn_texts, shaped_tables, small_tables,
)
from unpassed.errors import NoState
from unpassed.starts import bits_from, cut_state, meeting_text, parting_text, stretches
from unpassed.tables import letters_of, text_error

TABLES = small_tables() + shaped_tables() + drawn_tables(101, 30, (2, 3, 4, 5, 6, 7, 9, 12, 31, 64))
MIDDLE = [table for table in shaped_tables() + drawn_tables(102, 24, (6, 7, 8, 9, 10, 12)) if len(table) <= 12]
GREAT = [table for table in shaped_tables() + drawn_tables(103, 6, (63, 64)) if len(table) > 12]
NO_STATES = ODD_VALUES + ODD_TUPLES + FAR_INTEGERS + ((), (4,), [4], "4", {4: 4}, 3, 8, 0)


class BitsFromTest(unittest.TestCase, Checks):
    def test_as_writing_tells(self):
        for table in TABLES:
            for text in drawn_texts(104, table, (0, 1, 2, 9)):
                wanted = tuple([len(written(table, state, text)[0]) for state in states_of(table)])
                self.check_call(wanted, bits_from, table=table, text=text)
                greater = [state for state in states_of(table) if wanted[state - len(table)] > wanted[0]]
                self.check_call(min(greater, default=None), cut_state, table=table, text=text)

    def test_they_do_not_fall_and_rise_by_one_at_most(self):
        for table in TABLES:
            for text in drawn_texts(105, table, (1, 3, 30)):
                bits = bits_from(table, text)
                self.assertEqual(bits, tuple(sorted(bits)))
                self.assertLessEqual(bits[-1] - bits[0], 1)
                cut = cut_state(table, text)
                below = len(table) if cut is None else cut - len(table)
                self.assertEqual(bits, (bits[0],) * below + (bits[0] + 1,) * (len(table) - below))

    def test_no_letters(self):
        for table in shaped_tables():
            self.check_same(bits_from(table, ()), (0,) * len(table))
            self.check_same(cut_state(table, ()), None)

    def test_one_cell_and_letters_alone(self):
        self.check_same((bits_from((9,), (9,) * 2000), cut_state((9,), (9,))), ((0,), None))
        self.check_same((bits_from((9,) * 64, (9,) * 2000), cut_state((9,) * 64, (9,))), ((0,) * 64, None))

    def test_cuts_at_the_second_and_at_the_last_state(self):
        self.check_same(cut_state((0,) * 63 + (1,), (0,)), 126)
        self.check_same(cut_state((0,) * 63 + (1,), (0,) * 63), None)
        self.check_same(cut_state((0,) * 63 + (1,), (0,) * 62), 65)
        self.check_same(cut_state((0,) * 33 + (1,) * 31, (0,)), 66)

    def test_longest_texts(self):
        for table in GREAT:
            text = drawn_texts(106, table, (2000,))[0]
            bits = self.check_quick(bits_from, table, text)
            self.check_same((bits[0], bits[-1]), tuple([len(written(table, state, text)[0]) for state in (
                len(table), 2 * len(table) - 1)]))

    def test_more_letters_than_a_text_has(self):
        self.check_same(bits_from((0, 1), (1,) * 2001), (2001, 2001))
        self.check_same(cut_state((0, 1), (1,) * 2001), None)


class PartingTest(unittest.TestCase, Checks):
    def test_as_few_letters_as_can_be(self):
        for table in small_tables() + MIDDLE:
            least = least_letters(table, True)
            for one in states_of(table):
                for other in states_of(table):
                    self.check_parting(table, one, other, least.get((one, other)))

    def check_parting(self, table, one, other, least):
        text = parting_text(table, one, other)
        if least is None:
            self.assertIsNone(text)
        else:
            self.assertEqual(len(text), least)
            self.assertLess(least, len(table))
            self.assertIsNone(text_error(table, text))
            self.assertNotEqual(len(written(table, one, text)[0]), len(written(table, other, text)[0]))

    def test_no_shorter_tuple_does(self):
        for table in small_tables()[::5]:
            texts = all_texts(table, len(table) - 1)
            for one in states_of(table):
                for other in states_of(table):
                    least = [text for text in texts
                             if len(written(table, one, text)[0]) != len(written(table, other, text)[0])][:1]
                    told = parting_text(table, one, other)
                    self.assertEqual([len(text) for text in least], [] if told is None else [len(told)])

    def test_by_place_and_by_name(self):
        self.check_call((0, 0), parting_text, table=(0, 0, 0, 1), one=4, other=5)
        self.check_call((0, 0), parting_text, table=(0, 0, 0, 1), one=5, other=4)
        self.check_call(None, parting_text, table=(0, 0, 0, 1), one=6, other=7)
        self.check_call(None, parting_text, table=(9,), one=1, other=1)

    def test_a_state_is_alike_to_itself(self):
        for table in shaped_tables():
            for state in (len(table), 2 * len(table) - 1):
                self.check_same(parting_text(table, state, state), None)

    def test_greatest_tables(self):
        for table in GREAT:
            for one, other in ((0, 1), (0, len(table) - 1), (len(table) - 1, len(table) - 2), (1, len(table) // 2)):
                one, other = one + len(table), other + len(table)
                text = self.check_quick(parting_text, table, one, other)
                together = [part for part in stretches(table) if one in part and other in part]
                self.assertEqual(text is None, together != [])
                if text is not None:
                    bits = [len(written(table, state, text)[0]) for state in (one, other)]
                    self.assertEqual(abs(bits[0] - bits[1]), 1)
                    self.assertIs(parting_text(table, one, other) is None, False)

    def test_as_many_letters_as_can_be_needed(self):
        for many in (3, 7, 15, 31, 63):
            table = (0,) * many + (1,)
            self.check_same(len(parting_text(table, many + 1, many + 2)), many - 1)

    def test_no_states(self):
        check_no_states(self, parting_text)


class MeetingTest(unittest.TestCase, Checks):
    def test_as_few_letters_as_can_be(self):
        for table in small_tables() + MIDDLE:
            least = least_letters(table, False)
            for one in states_of(table):
                for other in states_of(table):
                    self.check_meeting(table, one, other, least.get((one, other)))

    def check_meeting(self, table, one, other, least):
        text = meeting_text(table, one, other)
        if least is None:
            self.assertIsNone(text)
        else:
            self.assertEqual(len(text), least)
            self.assertIsNone(text_error(table, text))
            self.assertEqual(written(table, one, text)[1], written(table, other, text)[1])

    def test_no_shorter_tuple_does(self):
        for table in small_tables()[::5]:
            texts = all_texts(table, 4)
            for one in states_of(table):
                for other in states_of(table):
                    least = [text for text in texts if written(table, one, text)[1] == written(table, other, text)[1]][:1]
                    told = meeting_text(table, one, other)
                    if least or told is not None and len(told) <= 4:
                        self.assertEqual(len(least[0]), len(told))

    def test_by_place_and_by_name(self):
        self.check_call((1,), meeting_text, table=(0, 1, 0), one=3, other=4)
        self.check_call((1,), meeting_text, table=(0, 1, 0), one=4, other=3)
        self.check_call(None, meeting_text, table=(0, 1, 0, 1), one=4, other=6)
        self.check_call(None, meeting_text, table=(0, 0), one=3, other=2)
        self.check_call((), meeting_text, table=(9,), one=1, other=1)

    def test_a_state_meets_itself(self):
        for table in shaped_tables():
            for state in (len(table), 2 * len(table) - 1):
                self.check_same(meeting_text(table, state, state), ())

    def test_greatest_tables(self):
        for table in GREAT:
            for one, other in ((0, 1), (0, len(table) - 1), (len(table) - 1, len(table) - 2), (1, len(table) // 2)):
                one, other = one + len(table), other + len(table)
                text = self.check_quick(meeting_text, table, one, other)
                if text is not None:
                    self.assertLessEqual(len(text), 1985)
                    self.assertEqual(written(table, one, text)[1], written(table, other, text)[1])

    def test_states_of_a_letter_alone_never_meet(self):
        for many in (2, 3, 64):
            self.check_same(meeting_text((5,) * many, many, 2 * many - 1), None)

    def test_what_met_is_one_behind_each_further_letter(self):
        for table in MIDDLE:
            text = meeting_text(table, len(table), 2 * len(table) - 1)
            if text is not None:
                for letter in letters_of(table):
                    reached = [written(table, state, text + (letter,))[1] for state in (len(table), 2 * len(table) - 1)]
                    self.assertEqual(reached[0], reached[1])

    def test_no_states(self):
        check_no_states(self, meeting_text)


def check_no_states(test, function):
    for table in ((0, 1, 0, 0), (0, 0, 0, 1)):
        for value in NO_STATES:
            test.check_raises(NoState, {"given": value}, function, table, value, 4)
            test.check_raises(NoState, {"given": value}, function, table, 4, value)
            test.check_raises(NoState, {"given": value}, function, table=table, one=value, other=value)
            test.check_raises(NoState, {"given": value}, function, table, value, 8)
            test.check_raises(NoState, {"given": 8}, function, table=table, one=8, other=value)
    test.check_raises(NoState, {"given": True}, function, (9,), True, 1)
    test.check_raises(NoState, {"given": True}, function, (9,), 1, True)
    test.check_raises(NoState, {"given": 2}, function, (9,), 2, 0)


class StretchesTest(unittest.TestCase, Checks):
    def test_as_parting_tells(self):
        for table in small_tables() + MIDDLE:
            self.check_call(self.parts(table, least_letters(table, True)), stretches, table=table)

    def parts(self, table, parted):
        """The states put together, each with all those from which nothing parts it."""
        alike = [tuple([state for state in states_of(table) if (one, state) not in parted]) for one in states_of(table)]
        return tuple(sorted(set(alike)))

    def test_as_all_texts_tell(self):
        for table in small_tables()[::3]:
            texts = all_texts(table, len(table) - 1)
            told = {}
            for state in states_of(table):
                told.setdefault(tuple([len(written(table, state, text)[0]) for text in texts]), []).append(state)
            self.check_same(stretches(table), tuple(sorted([tuple(states) for states in told.values()])))

    def test_no_holes(self):
        for table in TABLES:
            parts = self.check_quick(stretches, table)
            self.assertEqual([state for part in parts for state in part], list(states_of(table)))

    def test_edges(self):
        self.check_same(stretches((9,)), ((1,),))
        self.check_same(stretches((9,) * 64), (tuple(range(64, 128)),))
        self.check_same(stretches((0, 1) * 32), (tuple(range(64, 128)),))
        self.check_same(stretches((0,) * 63 + (1,)), tuple([(state,) for state in range(64, 126)]) + ((126, 127),))

    def test_greatest_tables(self):
        for table in GREAT:
            parts = self.check_quick(stretches, table)
            for part, further in zip(parts, parts[1:]):
                self.assertIsNone(parting_text(table, part[0], part[-1]))
                self.assertIsNotNone(parting_text(table, part[-1], further[0]))


if __name__ == "__main__":
    unittest.main()
