"""Papers that show what one table can cost more than another one at most."""

from unpassed.gains import check_joint, gain_of, gain_steps, greatest_gains, way_to
from unpassed.kinds import is_state_of, is_tuple, is_whole, is_within
from unpassed.steps import states_of
from unpassed.tables import text_error


def excess_paper(one, other):
    """A paper ([G4])."""
    check_joint(one, other)
    weights, ahead = greatest_gains(one, other)
    most = max(list(weights.values()))
    rows = [tuple([weights[(state, beside)] for beside in states_of(other)]) for state in states_of(one)]
    best = [pair for pair in weights if weights[pair] == most][0]
    start, text = way_to(ahead, best)
    return most, tuple(rows), (start[0], start[1], text)


def excess_holds(one, other, value):
    """Whether value is a paper ([G4])."""
    check_joint(one, other)
    if not is_tuple(value, 3, 3):
        return False
    most, rows, way = value
    if not is_whole(most) or not are_rows(one, other, most, rows):
        return False
    return is_way(one, other, most, way) and are_grown(one, other, rows)


def are_rows(one, other, most, value):
    """Whether value has an integer from 0 to most for each pair of states."""
    if not is_tuple(value, len(one), len(one)):
        return False
    if not all([is_tuple(row, len(other), len(other)) for row in value]):
        return False
    return all([is_within(weight, 0, most) for row in value for weight in row])


def are_grown(one, other, rows):
    """Whether each letter leads each pair to one whose weight is greater by what the letter gains at least."""
    for pair, _, gain, reached in gain_steps(one, other):
        if weight_of(one, other, rows, reached) < weight_of(one, other, rows, pair) + gain:
            return False
    return True


def weight_of(one, other, rows, pair):
    """The weight of a pair of states by rows."""
    return rows[pair[0] - len(one)][pair[1] - len(other)]


def is_way(one, other, most, value):
    """Whether value is a triple of two states and of a text that gains just most from them."""
    if not is_tuple(value, 3, 3):
        return False
    state, beside, text = value
    if not is_state_of(one, state) or not is_state_of(other, beside) or text_error(one, text) is not None:
        return False
    gain, _ = gain_of(one, other, (state, beside), text)
    return gain == most
