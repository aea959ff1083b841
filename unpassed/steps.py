"""Steps from state to state, as turns tell them."""

from unpassed.tables import letters_of
from unpassed.turns import letter_turn


def states_of(table):
    """All states of table ([A4]), ascending."""
    return tuple(range(len(table), 2 * len(table)))


def letter_turns(table):
    """The turn of each letter of table, by this letter; the letters ascend."""
    return {letter: letter_turn(table, letter) for letter in letters_of(table)}


def step_by(turn, state):
    """The pair of the bits that come, and of the state to which the turn leads, from state on."""
    many = len(turn)
    bits, place = divmod(turn[state - many], many)
    return bits, many + place


def ways_of(turns):
    """For each state, ascending, the steps by all turns of one ring, in their order."""
    many = len(turns[0])
    return [[step_by(turn, state) for turn in turns] for state in range(many, 2 * many)]
