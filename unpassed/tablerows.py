"""All tables with the same counts: their numbers, and which of them write a text best."""

from math import factorial

from unpassed.bounds import MAX_TABLES
from unpassed.costs import cost
from unpassed.errors import TooMany, Unfit
from unpassed.growths import grown_tables
from unpassed.kinds import is_within
from unpassed.ratios import is_below
from unpassed.tables import counts_of
from unpassed.writing import bit_count


def table_many(counts):
    """How many tables have these counts ([I3])."""
    many = factorial(sum([count for _, count in counts]))
    for _, count in counts:
        many //= factorial(count)
    return many


def table_at(counts, number):
    """The table with this number among all tables with these counts ([I3])."""
    many = table_many(counts)
    if not is_within(number, 0, many - 1):
        raise Unfit()
    left = dict(counts)
    table = []
    for _ in range(sum(left.values())):
        rows = beginnings(left, many)
        letter, ahead, many = [row for row in rows if row[1] <= number < row[1] + row[2]][0]
        number -= ahead
        left[letter] -= 1
        table.append(letter)
    return tuple(table)


def table_number(table):
    """The number of table among all tables with its counts ([I3])."""
    counts = counts_of(table)
    many = table_many(counts)
    left = dict(counts)
    number = 0
    for cell in table:
        _, ahead, many = [row for row in beginnings(left, many) if row[0] == cell][0]
        number += ahead
        left[cell] -= 1
    return number


def best_tables(counts, text):
    """All tables with these counts that write text with as few bits as any of them, ascending ([I4])."""
    rows = [(table, bit_count(table, len(table), text)) for table in tables_with(counts)]
    fewest = min([bits for _, bits in rows])
    return tuple([table for table, bits in rows if bits == fewest])


def best_cost(counts, text):
    """The least cost of text by a table with these counts, and the first table that has it ([I4])."""
    best = None
    for table in tables_with(counts):
        told = cost(table, text)
        if best is None or is_below(told, best[0]):
            best = told, table
    return best


def tables_with(counts):
    """All tables with these counts, ascending; TooMany is raised if there are more than are gone through."""
    if table_many(counts) > MAX_TABLES:
        raise TooMany(MAX_TABLES)
    most = dict(counts)
    return grown_tables(sum(most.values()), list(most), lambda row, letter: row.count(letter) < most[letter])


def beginnings(left, many):
    """For each letter, ascending: it, how many tables come ahead of those that begin with it, and how many these are.

    The tables are the many ones with the counts that left tells.
    """
    size = sum(left.values())
    ahead = 0
    rows = []
    for letter, count in left.items():
        begun = many * count // size
        rows.append((letter, ahead, begun))
        ahead += begun
    return rows
