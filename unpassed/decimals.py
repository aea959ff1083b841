"""Decimals without noughts ahead."""

from unpassed.kinds import is_within


def decimal_behind(text, least, most):
    """The integer from least to most, 0 or above, of which the string text is the decimal; None if there is none."""
    # Python refuses to read very long decimals, so they are turned away first.
    if len(text) > len(str(most)) or not text.isdecimal():
        return None
    number = int(text)
    if str(number) != text or not is_within(number, least, most):
        return None
    return number
