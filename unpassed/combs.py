"""Combs: texts that leave as few states as can be."""

from unpassed.bounds import MAX_COMBED
from unpassed.errors import TooMany
from unpassed.lots import left_by, rank
from unpassed.searches import shortest_text
from unpassed.starts import shortest_meeting
from unpassed.steps import letter_turns
from unpassed.tables import text_error


def comb(table):
    """A comb ([F3])."""
    check_combed(table)
    many = rank(table)
    text = ()
    left = left_by(table, text)
    while len(left) > many:
        # Two states of one lot can meet ([F6]), and there are such two as long as more states are left than lots.
        text = text + shortest_meeting(table, pairs_of(left))
        left = left_by(table, text)
    return text


def is_comb(table, value):
    """Whether value is a comb ([F3])."""
    return text_error(table, value) is None and len(left_by(table, value)) == rank(table)


def reset_text(table):
    """A comb with as few letters as can be if rank is 1, otherwise None ([F3])."""
    check_combed(table)
    if rank(table) > 1:
        return None
    many = len(table)
    turns = letter_turns(table)

    def step(places, letter):
        """The places that the letter leads to one of places."""
        return tuple([place for place in range(many) if turns[letter][place] % many in places])

    # What leads to one place is found from the last letter back to the first one. All that a text leads there is one
    # stretch of the ring, as no height passes another one, so there are few such tuples.
    starts = [(place,) for place in range(many)]
    return shortest_text(starts, list(turns), step, lambda places: len(places) == many)[::-1]


def check_combed(table):
    """Raise TooMany if table has more cells than combs are told for."""
    if len(table) > MAX_COMBED:
        raise TooMany(MAX_COMBED)


def pairs_of(states):
    """All pairs of two of the states, each once."""
    return [(one, other) for one in states for other in states if one < other]
