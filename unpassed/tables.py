"""Tables and texts: what is one, and which cells of a table bear which letter."""

from unpassed.bounds import MAX_CELLS, MAX_TEXT
from unpassed.checks import check_letter
from unpassed.errors import Unfit
from unpassed.kinds import is_letter, is_letter_of, is_tuple, is_within


def table_error(value):
    """None for a table, otherwise "form" or ("cell", place) ([A5])."""
    if not is_tuple(value, 1, MAX_CELLS):
        return "form"
    for place, item in enumerate(value):
        if not is_letter(item):
            return "cell", place
    return None


def text_error(table, value):
    """None for a text of table, otherwise "form" or ("letter", place) ([A5])."""
    if not is_tuple(value, 0, MAX_TEXT):
        return "form"
    for place, item in enumerate(value):
        if not is_letter_of(table, item):
            return "letter", place
    return None


def letters_of(table):
    """The letters of table, ascending, each once ([A6])."""
    return tuple(sorted(set(table)))


def counts_of(table):
    """The pairs of each letter of table, ascending, and of how many cells bear it ([A6])."""
    return tuple([(letter, count_of(table, letter)) for letter in letters_of(table)])


def count_of(table, letter):
    """In how many cells of table the letter stands ([A6])."""
    return table.count(letter)


def cells_of(table, letter):
    """The numbers of all cells of table that bear the letter, ascending."""
    return tuple([cell for cell, borne in enumerate(table) if borne == letter])


def cell_of(table, letter, k):
    """The number of the k-th cell of the letter ([A7])."""
    check_letter(table, letter)
    cells = cells_of(table, letter)
    if not is_within(k, 0, len(cells) - 1):
        raise Unfit()
    return cells[k]


def rank_at(table, cell):
    """The pair (s, k) for which cell is the k-th cell of the letter s ([A7])."""
    if not is_within(cell, 0, len(table) - 1):
        raise Unfit()
    letter = table[cell]
    return letter, count_of(table[:cell], letter)
