"""Starts: what unlike states cost a text, which states are alike, and which ones meet."""

from unpassed.checks import check_state
from unpassed.searches import shortest_text
from unpassed.steps import letter_turns, states_of, step_by, ways_of
from unpassed.turns import text_turn


def bits_from(table, text):
    """What each state costs for the text, ascending by states ([E2])."""
    return tuple([height // len(table) for height in text_turn(table, text)])


def cut_state(table, text):
    """The least state that costs more for the text than the first one, None if there is none ([E2])."""
    bits = bits_from(table, text)
    for state, own in zip(states_of(table), bits):
        if own > bits[0]:
            return state
    return None


def parting_text(table, one, other):
    """A shortest tuple of letters that parts two states, None if they are alike ([E3])."""
    check_states(table, one, other)
    turns = letter_turns(table)
    return shortest_parting(turns, turns, (one, other))


def stretches(table):
    """The tuples of alike states, by their first ones ([E3])."""
    numbers = stretch_numbers(table)
    parts = [[] for _ in range(numbers[-1] + 1)]
    for state, number in zip(states_of(table), numbers):
        parts[number].append(state)
    return tuple([tuple(part) for part in parts])


def meeting_text(table, one, other):
    """A shortest tuple of letters that leads two states to one, None if there is none ([E4])."""
    check_states(table, one, other)
    return shortest_meeting(table, [(one, other)])


def check_states(table, one, other):
    """Raise NoState with the first one of two values that is no state of table."""
    check_state(table, one)
    check_state(table, other)


def shortest_parting(turns, others, start):
    """A shortest tuple of letters that costs unlike much from the two states of start, None if there is none.

    turns and others tell for the one and for the other state how the same letters lead it.
    """
    def step(pair, letter):
        """The pair to which the letter leads, None if it parts the pair."""
        bits, state = step_by(turns[letter], pair[0])
        more, beside = step_by(others[letter], pair[1])
        return (state, beside) if bits == more else None

    return shortest_text([start], list(turns), step, lambda pair: pair is None)


def shortest_meeting(table, pairs):
    """A shortest tuple of letters that leads both states of one of the pairs to one state, None if there is none."""
    turns = letter_turns(table)

    def step(pair, letter):
        """The pair to which the letter leads, ascending, so that no pair is gone through twice."""
        reached = [step_by(turns[letter], state)[1] for state in pair]
        return min(reached), max(reached)

    return shortest_text(pairs, list(turns), step, lambda pair: pair[0] == pair[1])


def stretch_numbers(table):
    """For each state, ascending, the number of its stretch."""
    ways = ways_of(list(letter_turns(table).values()))
    numbers = (0,) * len(table)
    finer = finer_numbers(ways, numbers)
    while finer != numbers:
        numbers = finer
        finer = finer_numbers(ways, numbers)
    return numbers


def finer_numbers(ways, numbers):
    """The numbers of states that texts of one letter more do not part, numbers being those for the texts ahead."""
    rows = [[(bits, numbers[reached - len(numbers)]) for bits, reached in steps] for steps in ways]
    # What lies between two states that some texts do not part is not parted from them either ([E7]), so a state has
    # the number of the one ahead of it, or a new one.
    finer = [0]
    for ahead, row in zip(rows, rows[1:]):
        finer.append(finer[-1] if row == ahead else finer[-1] + 1)
    return tuple(finer)
