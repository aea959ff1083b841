"""Checks of arguments that raise an error for what does not fit the table."""

from unpassed.errors import NoLetter
from unpassed.kinds import is_letter_of


def check_letter(table, value):
    """Raise NoLetter if value is no letter of table."""
    if not is_letter_of(table, value):
        raise NoLetter(value)
