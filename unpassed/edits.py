"""Edits: what each one makes of the tables that a bench keeps by their names ([M2])."""

from unpassed.bounds import BATCH, MAX_CELLS, MAX_NAME, MAX_NAMES
from unpassed.errors import BadBatch, BadTable, NoLetter, NoName, Rejected, RingError, TooMany, Unfit
from unpassed.kinds import is_letter, is_tuple, is_within
from unpassed.tables import table_error
from unpassed.tabletexts import SIGNS

# What the arguments of each edit are; a batch has edits of these words alone.
FORMS = {
    "keep": ("name", "table"), "drop": ("name",), "exchange": ("name", "number", "number"),
    "put": ("name", "number", "letter"), "take": ("name", "number"),
}


def edited(tables, edit):
    """The tables behind an edit of any word, a tuple of its word and its arguments; they are by ascending names."""
    if edit[0] == "batch":
        return behind_batch(tables, edit[1])
    return behind_part(tables, edit)


def behind_batch(tables, edits):
    """The tables behind all edits of a batch."""
    if not is_tuple(edits, 0, BATCH) or not all([is_part(edit) for edit in edits]):
        raise BadBatch()
    for place, edit in enumerate(edits):
        try:
            tables = behind_part(tables, edit)
        except RingError:
            raise Rejected(place)
    return tables


def is_part(value):
    """Whether value is a tuple of the word of an edit other than a batch, and of as many arguments as it has."""
    if not is_tuple(value, 1, 4) or not isinstance(value[0], str):
        return False
    return value[0] in FORMS and len(value) == 1 + len(FORMS[value[0]])


def behind_part(tables, edit):
    """The tables behind an edit other than a batch."""
    word, *arguments = edit
    action = ACTIONS[word]
    return action(tables, *arguments)


def keep_table(tables, name, table):
    """The tables with this one under the name."""
    if not is_name(name):
        raise Unfit()
    error = table_error(table)
    if error is not None:
        raise BadTable(error)
    if name not in tables and len(tables) >= MAX_NAMES:
        raise TooMany(MAX_NAMES)
    return with_table(tables, name, table)


def drop_table(tables, name):
    """The tables without the one under the name."""
    check_name(tables, name)
    return {own: tables[own] for own in tables if own != name}


def exchange_cells(tables, name, one, other):
    """The tables with the letters of two cells exchanged."""
    table = table_named(tables, name)
    if not is_cell(table, one) or not is_cell(table, other):
        raise Unfit()
    cells = list(table)
    cells[one], cells[other] = table[other], table[one]
    return with_table(tables, name, tuple(cells))


def put_cell(tables, name, cell, letter):
    """The tables with a cell of this letter put in ahead of the cell."""
    table = table_named(tables, name)
    if not is_within(cell, 0, len(table)):
        raise Unfit()
    if not is_letter(letter):
        raise NoLetter(letter)
    if len(table) >= MAX_CELLS:
        raise TooMany(MAX_CELLS)
    return with_table(tables, name, table[:cell] + (letter,) + table[cell:])


def take_cell(tables, name, cell):
    """The tables with the cell taken out."""
    table = table_named(tables, name)
    if not is_cell(table, cell) or len(table) == 1:
        raise Unfit()
    return with_table(tables, name, table[:cell] + table[cell + 1:])


def with_table(tables, name, table):
    """The tables with this one under the name, which is right."""
    found = dict(tables)
    found[name] = table
    return {own: found[own] for own in sorted(found)}


def table_named(tables, name):
    """The table under the name; NoName is raised if there is none."""
    check_name(tables, name)
    return tables[name]


def check_name(tables, value):
    """Raise NoName if value is no name that is kept."""
    if not is_name(value) or value not in tables:
        raise NoName(value)


def is_name(value):
    """Whether value is a name, kept or not ([M1])."""
    if not isinstance(value, str) or not 1 <= len(value) <= MAX_NAME or value == "none":
        return False
    return all([sign in SIGNS for sign in value])


def is_cell(table, value):
    """Whether value is the number of a cell of table."""
    return is_within(value, 0, len(table) - 1)


ACTIONS = {
    "keep": keep_table, "drop": drop_table, "exchange": exchange_cells, "put": put_cell, "take": take_cell,
}
