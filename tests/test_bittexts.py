"""The texts of packets: what [B5] says of packet_text and read_packet."""

import unittest

from tests.support import Checks, FAR_INTEGERS, ODD_TUPLES, ODD_VALUES, drawn_tables, drawn_texts
from unpassed.bittexts import packet_text, read_packet
from unpassed.errors import BadText
from unpassed.writing import pack

PACKETS = (
    (0, 1, ()), (0, 4, ()), (4, 4, (0, 1, 1)), (1, 127, (0,)), (2000, 64, (1, 0) * 6000), (10, 10, (0,) * 12000),
    (1999, 100, (1,) * 11999), (9, 9, (1,)), (100, 99, ()), (1000, 126, (0, 0, 1)), (2000, 1, ()),
)


class PacketTextTest(unittest.TestCase, Checks):
    def test_there_and_back(self):
        for many, state, bits in PACKETS:
            text = str(many) + " " + str(state) + ":" + "".join(["01"[bit] for bit in bits])
            self.check_call(text, packet_text, packet=(many, state, bits))
            self.check_call((many, state, bits), read_packet, value=text)

    def test_every_head(self):
        for many in [*range(0, 130), 199, 200, 201, 999, 1000, 1001, 1998, 1999, 2000]:
            for state in (1, 9, 10, 99, 100, 127):
                self.check_same(read_packet(packet_text((many, state, (1,)))), (many, state, (1,)))
        for state in range(1, 128):
            self.check_same(read_packet(f"0 {state}:"), (0, state, ()))

    def test_packets_of_texts(self):
        for table in drawn_tables(51, 30, (1, 3, 12, 64)):
            for text in drawn_texts(52, table, (0, 1, 12, 300)):
                self.check_same(read_packet(packet_text(pack(table, text))), pack(table, text))

    def check_bad(self, *values):
        for value in values:
            self.check_raises(BadText, {}, read_packet, value)

    def test_bounds(self):
        self.check_bad("2001 4:", "2010 4:", "3000 4:", "10000 4:", "-1 4:", "0 0:", "0 128:", "0 200:", "0 1000:", "0 -4:")
        self.check_bad("4 4:" + "0" * 12001, "4 4:" + "1" * 15000)
        self.check_same(read_packet("2000 127:" + "01" * 6000), (2000, 127, (0, 1) * 6000))

    def test_decimals(self):
        for number in ("04", "00", "000", "+4", "-4", "-0", " 4", "4 ", "4_0", "4.0", "1e2", "0x4", "four", "", "4\n"):
            self.check_bad(number + " 4:011", "4 " + number + ":011")
        for many in (20, 400, 4300, 4301, 5000, 19000):
            self.check_bad("1" * many + " 4:011", "4 " + "1" * many + ":011", "0" * many + "4 4:", "4 " + "0" * many + "4:")
        self.check_bad("0" * 4, "\u00b2 4:", "4 \u0664:")

    def test_blanks_and_colons(self):
        self.check_bad("", " ", ":", " :", "4", "4 4", "4 4 011", "44:011", "4:4 011", "4  4:011", " 4 4:011", "4 4 :011",
                       "4 4: 011", "4 4:011 ", "4 4:011\n", "\n4 4:011", "4\n4:011", "4 4::011", "4 4:0:11", ":4 4:011",
                       "4 4:0 1 1", "4 4 4:011", "4\t4:011", "4,4:011", "(4, 4, (0, 1, 1))", "4 :", " 4:")

    def test_bits(self):
        self.check_bad("4 4:2", "4 4:012", "4 4:O1", "4 4:-1", "4 4:0b1", "4 4:01a", "4 4:1.", "4 4:\u0661")
        self.check_same(read_packet("4 4:"), (4, 4, ()))

    def test_values_that_are_no_strings(self):
        values = [value for value in ODD_VALUES if not isinstance(value, str)]
        self.check_bad(*values, *ODD_TUPLES, *FAR_INTEGERS, 0, 4, (), (4, 4, (0, 1, 1)), ["4 4:011"], ("4 4:011",), b"4 4:")
        self.check_bad(*[value for value in ODD_VALUES if isinstance(value, str)])


if __name__ == "__main__":
    unittest.main()
