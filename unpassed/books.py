"""Books: several tables of as many cells, by which one text is written."""

from unpassed.bounds import MAX_BOOK
from unpassed.checks import check_letter, check_state
from unpassed.errors import Short
from unpassed.kinds import is_tuple
from unpassed.reading import letter_read, starts_of
from unpassed.tables import cells_of, table_error
from unpassed.writing import letter_written


def book_error(value):
    """None for a book, otherwise "form", ("table", place, error) or "cells" ([J2])."""
    if not is_tuple(value, 1, MAX_BOOK):
        return "form"
    for place, item in enumerate(value):
        error = table_error(item)
        if error is not None:
            return "table", place, error
    if not all([len(table) == len(value[0]) for table in value]):
        return "cells"
    return None


def write_line(book, state, line):
    """The pair of the bits that come of the line, written from state on, and of the last state ([J3])."""
    check_state(book[0], state)
    for place, letter in line:
        check_letter(book[place], letter)
    cells = {(place, letter): cells_of(book[place], letter) for place, letter in line}
    written = []
    for pair in line:
        bits, state = letter_written(len(book[0]), cells[pair], state)
        written.extend(bits)
    return tuple(written), state


def read_line(book, state, bits, places):
    """The line with these places that is read from state on, the last state, and the bits left ([J3])."""
    return read_pairs(book, state, bits, len(places), lambda pairs: places[-1 - len(pairs)])


def by_rule(book, rule, first, text):
    """The line of text whose places the rule tells, from the last letter on; that one's is first ([J4])."""
    places = dict(rule)
    place = first
    line = []
    for letter in text[::-1]:
        check_letter(book[place], letter)
        line.append((place, letter))
        place = places[letter]
    return tuple(line[::-1])


def read_by(book, rule, first, state, bits, many):
    """The text of many letters that is read by the rule from state on, the last state, and the bits left ([J4])."""
    places = dict(rule)
    line, state, left = read_pairs(
        book, state, bits, many, lambda pairs: places[pairs[-1][1]] if len(pairs) > 0 else first)
    return tuple([letter for _, letter in line]), state, left


def read_pairs(book, state, bits, many, place_behind):
    """The line of many pairs that is read from state on, the last state, and the bits left.

    place_behind(pairs) is the place of the table that reads on behind the pairs that were read till then.
    """
    check_state(book[0], state)
    starts = [starts_of(table) for table in book]
    left = len(bits)
    pairs = []
    while len(pairs) < many:
        place = place_behind(pairs)
        letter, start = starts[place][state - len(book[0])]
        step = letter_read(len(book[0]), start, bits, left)
        if step is None:
            raise Short(len(pairs))
        state, left = step
        pairs.append((place, letter))
    return tuple(pairs[::-1]), state, bits[:left]
