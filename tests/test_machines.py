"""Machines: [E5], [E6], and what [E7] tells of them."""

import unittest

from tests.model import states_of, written, written_letter
from tests.support import Checks, drawn_tables, drawn_texts, shaped_tables, small_tables
from unpassed.machines import machine_bits, machine_of
from unpassed.starts import stretches
from unpassed.tables import letters_of

TABLES = small_tables() + shaped_tables() + drawn_tables(111, 30, (2, 3, 4, 5, 6, 7, 9, 12, 31, 63, 64))


class MachineTest(unittest.TestCase, Checks):
    def test_as_writing_tells_from_each_state(self):
        for table in TABLES:
            machine = machine_of(table)
            numbers = {state: number for number, part in enumerate(stretches(table)) for state in part}
            self.assertEqual(len(machine), len(stretches(table)))
            for state in states_of(table):
                steps = [(letter, written_letter(table, state, letter)) for letter in letters_of(table)]
                wanted = tuple([(letter, len(bits), numbers[reached]) for letter, (bits, reached) in steps])
                self.check_same(machine[numbers[state]], wanted)

    def test_by_place_and_by_name(self):
        for table in small_tables()[::9]:
            self.check_call(machine_of(table), machine_of, table=table)
        self.check_call((((3, 0, 0),),), machine_of, table=(3,) * 64)
        self.check_call((((0, 1, 0), (1, 1, 0)),), machine_of, table=(1, 0))

    def test_edges(self):
        self.check_same(machine_of((25,)), (((25, 0, 0),),))
        self.check_same(machine_of((0, 1) * 32), (((0, 1, 0), (1, 1, 0)),))
        rows = machine_of((0,) * 63 + (1,))
        self.assertEqual(len(rows), 63)
        self.check_same((rows[0], rows[61], rows[62]),
                        (((0, 0, 1), (1, 6, 62)), ((0, 0, 62), (1, 6, 62)), ((0, 1, 0), (1, 6, 62))))

    def test_greatest_tables(self):
        for table in (tuple(range(26)) * 2 + tuple(range(12)), (0,) * 33 + (1,) * 31, (0, 1, 2) * 21):
            self.assertEqual(len(self.check_quick(machine_of, table)), len(stretches(table)))

    def test_no_two_numbers_tell_the_same(self):
        """Numbers that no text parts could be one, so some text parts each two of them."""
        for table in small_tables() + shaped_tables()[:14]:
            machine = machine_of(table)
            numbers = range(len(machine))
            told = [0] * len(machine)
            for _ in numbers:
                rows = [[(bits, told[reached]) for _, bits, reached in row] for row in machine]
                told = [rows.index(row) for row in rows]
            self.assertEqual(len(set(told)), len(machine))


class MachineBitsTest(unittest.TestCase, Checks):
    def test_as_writing_tells_from_each_state(self):
        for table in TABLES:
            machine = machine_of(table)
            for text in drawn_texts(112, table, (0, 1, 2, 12)):
                for number, part in enumerate(stretches(table)):
                    for state in {part[0], part[-1]}:
                        bits, _ = written(table, state, text)
                        self.check_call(len(bits), machine_bits, machine=machine, number=number, text=text)

    def test_longest_texts(self):
        for table in (tuple(range(26)) * 2 + tuple(range(12)), (0,) * 63 + (1,), (3,) * 64, (3,), (0,) + (1,) * 63):
            machine = machine_of(table)
            text = drawn_texts(113, table, (2000,))[0]
            for number, state in ((0, len(table)), (len(machine) - 1, 2 * len(table) - 1)):
                told = self.check_quick(machine_bits, machine, number, text)
                self.check_same(told, len(written(table, state, text)[0]))

    def test_more_letters_than_a_text_has(self):
        self.check_same(machine_bits(machine_of((0, 1)), 0, (1,) * 2001), 2001)


if __name__ == "__main__":
    unittest.main()
