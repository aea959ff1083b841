"""Tables and texts as strings of small letters."""

from unpassed.errors import BadText
from unpassed.tables import table_error, text_error

SIGNS = "abcdefghijklmnopqrstuvwxyz"


def table_text(table):
    """The string of a table ([A8])."""
    return signs_of(table)


def letters_text(text):
    """The string of a text of some table ([A8])."""
    return signs_of(text)


def read_table(value):
    """The table of which value is the string ([A8])."""
    table = letters_behind(value)
    if table_error(table) is not None:
        raise BadText()
    return table


def read_letters(table, value):
    """The text of table of which value is the string ([A8])."""
    text = letters_behind(value)
    if text_error(table, text) is not None:
        raise BadText()
    return text


def signs_of(letters):
    """The signs of letters, with nothing between."""
    return "".join([SIGNS[letter] for letter in letters])


def letters_behind(value):
    """What stands for each sign of the string value: its letter, or -1, which is no letter."""
    if not isinstance(value, str):
        raise BadText()
    return tuple([SIGNS.find(sign) for sign in value])
