"""Whether a value is of some kind, asked of any value without an error."""

from unpassed.bounds import MAX_BITS, MAX_LETTER


def is_whole(value):
    """Whether value is an integer; a bool is none ([A3])."""
    return isinstance(value, int) and not isinstance(value, bool)


def is_within(value, least, most):
    """Whether value is an integer from least to most."""
    return is_whole(value) and least <= value <= most


def is_tuple(value, least, most):
    """Whether value is a tuple of least to most items."""
    return isinstance(value, tuple) and least <= len(value) <= most


def is_letter(value):
    """Whether value is a letter ([A4])."""
    return is_within(value, 0, MAX_LETTER)


def is_letter_of(table, value):
    """Whether value is a letter that stands in table."""
    return is_letter(value) and value in table


def is_state_of(table, value):
    """Whether value is a state of table ([A4])."""
    return is_within(value, len(table), 2 * len(table) - 1)


def is_bits(value):
    """Whether value are bits ([B1])."""
    return is_tuple(value, 0, MAX_BITS) and all([is_within(bit, 0, 1) for bit in value])
