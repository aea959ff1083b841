"""Sums: the least and the greatest bits of texts of so many letters, and how many texts cost how much."""

from unpassed.checks import check_state
from unpassed.choices import choice_turn, chosen_letters, turns_told
from unpassed.steps import step_by, ways_of
from unpassed.turnpowers import power


def fewest_bits(table, letters, state, many):
    """The least number of bits of a text of so many of letters, written from state on ([H4])."""
    return chosen_bits(table, letters, state, many, "least")


def most_bits(table, letters, state, many):
    """The greatest number of bits of a text of so many of letters, written from state on ([H4])."""
    return chosen_bits(table, letters, state, many, "most")


def cheapest_text(table, letters, state, many):
    """A text of so many of letters that costs fewest_bits from state on ([H4])."""
    check_state(table, state)
    chosen = chosen_letters(table, letters, "least")
    turn = choice_turn(table, letters, "least")
    text = []
    while len(text) < many:
        text.append(chosen[state - len(table)])
        _, state = step_by(turn, state)
    return tuple(text)


def count_within(table, letters, state, many, bits):
    """How many texts of so many of letters cost at most so many bits, written from state on ([H5])."""
    # Beyond what the dearest text costs there is no further one to count.
    most = min(bits, most_bits(table, letters, state, many))
    ways = ways_of(list(turns_told(table, letters).values()))
    rows = [[1] * (most + 1) for _ in ways]
    for _ in range(many):
        rows = [row_ahead(rows, steps) for steps in ways]
    return rows[state - len(table)][most]


def chosen_bits(table, letters, state, many, word):
    """The bits of so many letters if always the cheapest, or the dearest, one is written, from state on."""
    check_state(table, state)
    # Who always writes the letter that leads to the least height stays least, as no height passes another one ([H6]).
    bits, _ = step_by(power(choice_turn(table, letters, word), many), state)
    return bits


def row_ahead(rows, steps):
    """How many texts cost at most 0, 1, .. bits from a state whose letters have these steps.

    rows tells the same of each state, ascending, for texts of one letter less.
    """
    size = len(rows[0])
    behind = [([0] * bits + rows[reached - len(rows)])[:size] for bits, reached in steps]
    return [sum(counts) for counts in zip(*behind)]
