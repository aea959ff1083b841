"""Packets as strings."""

from unpassed.bounds import MAX_BITS, MAX_CELLS, MAX_TEXT
from unpassed.decimals import decimal_behind
from unpassed.errors import BadText


def packet_text(packet):
    """The text of a packet ([B5])."""
    many, state, bits = packet
    return f"{many} {state}:" + "".join([str(bit) for bit in bits])


def read_packet(value):
    """The packet of which value is the text ([B5])."""
    if not isinstance(value, str):
        raise BadText()
    head, colon, signs = value.partition(":")
    first, _, second = head.partition(" ")
    many = decimal_behind(first, 0, MAX_TEXT)
    state = decimal_behind(second, 1, 2 * MAX_CELLS - 1)
    if colon == "" or many is None or state is None:
        raise BadText()
    return many, state, bits_behind(signs)


def bits_behind(signs):
    """The bits of which the string signs has one sign each."""
    if len(signs) > MAX_BITS or signs.count("0") + signs.count("1") != len(signs):
        raise BadText()
    return tuple([int(sign) for sign in signs])
