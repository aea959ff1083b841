"""Checks of arguments that raise an error for what does not fit the table."""

from unpassed.errors import NoLetter, NoState
from unpassed.kinds import is_letter_of, is_state_of


def check_letter(table, value):
    """Raise NoLetter if value is no letter of table."""
    if not is_letter_of(table, value):
        raise NoLetter(value)


def check_letters(table, text):
    """Raise NoLetter with the first item of text that is no letter of table."""
    for item in text:
        check_letter(table, item)


def check_state(table, value):
    """Raise NoState if value is no state of table."""
    if not is_state_of(table, value):
        raise NoState(value)
