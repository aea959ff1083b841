"""Tables that grow cell by cell, wherever the document asks for all tables of some kind."""


def grown_tables(many, letters, may_grow):
    """All tables of many cells of letters, which ascend, that grow as they may; they ascend, too.

    may_grow(row, letter) is whether the letter may come behind the cells of row.
    """
    rows = [()]
    for _ in range(many):
        rows = [row + (letter,) for row in rows for letter in letters if may_grow(row, letter)]
    return rows
