"""Reading texts: bits become letters again, from the last letter on."""

from unpassed.bounds import MAX_TEXT
from unpassed.checks import check_state
from unpassed.errors import Short, TooMany, Unfit
from unpassed.kinds import is_bits, is_state_of, is_tuple, is_within
from unpassed.tables import count_of, letters_of, rank_at


def read(table, state, bits, many):
    """The triple of the text of many letters that is read from state on, the last state and the bits left ([B3])."""
    check_state(table, state)
    text, state, left = read_on(table, state, bits, many)
    if len(text) < many:
        raise Short(len(text))
    return text, state, bits[:left]


def read_back(table, state, bits):
    """What read returns for as many letters as can be read whole ([B4])."""
    check_state(table, state)
    if len(letters_of(table)) == 1:
        raise Unfit()
    text, state, left = read_on(table, state, bits, MAX_TEXT + 1)
    if len(text) > MAX_TEXT:
        raise TooMany(MAX_TEXT)
    return text, state, bits[:left]


def unpack(table, value):
    """The text of table whose packet value is ([B5])."""
    if not is_packet_of(table, value):
        raise Unfit()
    many, last, bits = value
    text, state, left = read_on(table, last, bits, many)
    # Reading undoes writing, so value is a packet just if all letters, to the first state, take all bits.
    if len(text) < many or state != len(table) or left > 0:
        raise Unfit()
    return text


def is_packet_of(table, value):
    """Whether value is a packet with a state of table."""
    if not is_tuple(value, 3, 3):
        return False
    many, state, bits = value
    return is_within(many, 0, MAX_TEXT) and is_state_of(table, state) and is_bits(bits)


def read_on(table, state, bits, most):
    """The triple of what is read from state on, most letters or as many as the bits last for.

    It is the text, the last state, and how many of the first bits are left.
    """
    starts = starts_of(table)
    letters = []
    left = len(bits)
    while len(letters) < most:
        letter, start = starts[state - len(table)]
        step = letter_read(len(table), start, bits, left)
        if step is None:
            break
        state, left = step
        letters.append(letter)
    return tuple(letters[::-1]), state, left


def starts_of(table):
    """For each cell the pair of its letter s and of q(s) + k, for the k-th cell of s ([B1])."""
    ranks = [rank_at(table, cell) for cell in range(len(table))]
    return [(letter, count_of(table, letter) + k) for letter, k in ranks]


def letter_read(many, start, bits, left):
    """The pair of the state to which reading a letter leads and of how many bits are left; None if they do not last.

    It begins with start, in a table of many cells, when the first left ones of bits are there.
    """
    state = start
    while state < many:
        if left == 0:
            return None
        left -= 1
        state = 2 * state + bits[left]
    return state, left
