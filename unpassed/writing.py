"""Writing texts: letters become bits, from the first letter on."""

from unpassed.checks import check_letters, check_state
from unpassed.tables import cells_of


def write(table, state, text):
    """The pair of the bits that come of text, written from state on, and of the last state ([B2])."""
    check_state(table, state)
    check_letters(table, text)
    cells = {letter: cells_of(table, letter) for letter in sorted(set(text))}
    written = []
    for letter in text:
        bits, state = letter_written(len(table), cells[letter], state)
        written.extend(bits)
    return tuple(written), state


def bit_count(table, state, text):
    """How many bits come of text, written from state on ([B2])."""
    bits, _ = write(table, state, text)
    return len(bits)


def pack(table, text):
    """The packet of text ([B5])."""
    bits, state = write(table, len(table), text)
    return len(text), state, bits


def letter_written(many, cells, state):
    """The bits and the new state of the letter with these cells, in a table of many cells, written at state ([B1])."""
    bits = []
    while state >= 2 * len(cells):
        bits.append(state % 2)
        state //= 2
    return bits, many + cells[state - len(cells)]
