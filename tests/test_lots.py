"""Lots: [F1], [F2], and what [F5], [F6] and [A2] (d) tell of them."""

import unittest

from tests.model import rows_left, states_left, states_of, written_letter
from tests.support import Checks, drawn_tables, drawn_texts, every_table, shaped_tables, small_tables
from unpassed.lots import left_by, lots, rank
from unpassed.starts import meeting_text
from unpassed.tables import counts_of, letters_of

TABLES = small_tables() + shaped_tables() + drawn_tables(121, 40, (2, 3, 4, 5, 6, 7, 9, 12, 31, 63, 64))
MIDDLE = [table for table in shaped_tables() + drawn_tables(122, 24, (6, 7, 8, 9, 10, 12)) if len(table) <= 12]


def lot_of(table, state):
    """All states to which texts lead from state."""
    found = [state]
    for state in found:
        for letter in letters_of(table):
            _, reached = written_letter(table, state, letter)
            if reached not in found:
                found.append(reached)
    return tuple(sorted(found))


class LotsTest(unittest.TestCase, Checks):
    def test_as_writing_tells(self):
        for table in TABLES:
            found = {lot_of(table, state) for state in states_of(table)}
            self.check_call(tuple(sorted(found)), lots, table=table)

    def test_each_state_is_in_one(self):
        for table in TABLES:
            self.assertEqual(sorted([state for lot in lots(table) for state in lot]), list(states_of(table)))

    def test_stretches_round_the_ring(self):
        for table in TABLES:
            for lot in lots(table):
                gaps = [state for state in lot if (state + 1 - len(table)) % len(table) + len(table) not in lot]
                self.assertEqual(len(gaps), 1 if len(lots(table)) > 1 else 0)

    def test_edges(self):
        self.check_same(lots((9,)), ((1,),))
        self.check_same(lots((9,) * 64), tuple([(state,) for state in range(64, 128)]))
        self.check_same(lots((0, 1) * 32), tuple([(state, state + 1) for state in range(64, 128, 2)]))
        self.check_same(lots((0,) * 63 + (1,)), (tuple(range(64, 128)),))
        self.check_same(lots(tuple(range(26))), (tuple(range(26, 52)),))

    def test_greatest_tables(self):
        for table in (tuple(range(26)) * 2 + tuple(range(12)), (0, 1, 2, 3) * 16, (0,) * 63 + (1,), (4,) * 64):
            self.check_quick(lots, table)
            self.check_quick(rank, table)

    def test_states_of_one_lot_meet_and_others_never(self):
        for table in MIDDLE:
            found = lots(table)
            for one in states_of(table):
                for other in states_of(table):
                    together = [lot for lot in found if one in lot and other in lot] != []
                    self.assertEqual(meeting_text(table, one, other) is not None, together)


class LeftByTest(unittest.TestCase, Checks):
    def test_as_writing_tells(self):
        for table in TABLES:
            for text in drawn_texts(123, table, (0, 1, 2, 3, 9)):
                self.check_call(states_left(table, text), left_by, table=table, text=text)

    def test_no_letters_leave_all(self):
        for table in shaped_tables():
            self.check_same(left_by(table, ()), tuple(states_of(table)))

    def test_a_letter_leaves_its_cells(self):
        for table in TABLES:
            for letter, count in counts_of(table):
                left = left_by(table, (letter,))
                self.assertEqual(left, tuple([state for state in states_of(table) if table[state - len(table)] == letter]))
                self.assertEqual(len(left), count)

    def test_longest_texts(self):
        for table in (tuple(range(26)) * 2 + tuple(range(12)), (0,) * 63 + (1,), (3,) * 64, (3,), (0, 1) * 32):
            text = drawn_texts(124, table, (2000,))[0]
            self.check_same(self.check_quick(left_by, table, text), states_left(table, text))

    def test_more_letters_than_a_text_has(self):
        self.check_same(left_by((0, 1), (1,) * 2001), (3,))


class RankTest(unittest.TestCase, Checks):
    def test_as_all_texts_tell(self):
        for table in small_tables() + MIDDLE + every_table(6, (0, 1))[::3] + every_table(9, (0, 1))[::40]:
            wanted = min([len(states) for states in rows_left(table)])
            self.check_call(wanted, rank, table=table)
            self.assertEqual(len(lots(table)), wanted)

    def test_some_tables(self):
        for table, wanted in (
            ((9,), 1), ((9,) * 64, 64), ((0, 1) * 32, 32), ((0, 1, 2, 3) * 16, 16), ((0,) * 63 + (1,), 1),
            ((0, 0, 1, 1) * 16, 16), ((0, 1), 1), ((0, 0), 2), (tuple(range(26)), 1),
        ):
            self.check_same(rank(table), wanted)

    def test_no_more_than_any_letter_has_cells(self):
        for table in TABLES:
            self.assertLessEqual(rank(table), min([count for _, count in counts_of(table)]))


if __name__ == "__main__":
    unittest.main()
