"""Means: the least and the greatest bits by letters of rounds of texts, and papers that show them."""

from unpassed.checks import check_letters
from unpassed.choices import choice_turn, chosen_letters, turns_told
from unpassed.costs import turn_cost
from unpassed.kinds import is_state_of, is_tuple, is_whole
from unpassed.ratios import is_fraction
from unpassed.rounds import turn_rounds
from unpassed.steps import states_of, step_by
from unpassed.tables import text_error
from unpassed.writing import write


def cheapest(table, letters):
    """The least mean of a round ([H2])."""
    # Who always writes the letter that leads to the least height stays least ([H6]).
    return turn_cost(choice_turn(table, letters, "least"))


def dearest(table, letters):
    """The greatest mean of a round ([H2])."""
    return turn_cost(choice_turn(table, letters, "most"))


def mean_paper(table, letters, word):
    """A paper for word ([H3])."""
    turn = choice_turn(table, letters, word)
    above, below = turn_cost(turn)
    places = turn_rounds(turn)[0]
    chosen = chosen_letters(table, letters, word)
    text = tuple([chosen[place] for place in places])
    return above, below, len(table) + places[0], text, mean_weights(table, letters, word, above, below)


def mean_holds(table, letters, word, value):
    """Whether value is a paper for word ([H3])."""
    check_letters(table, letters)
    if not is_tuple(value, 5, 5):
        return False
    above, below, state, text, weights = value
    if not is_fraction(above, below) or not is_mean_of(table, letters, above, below, (state, text)):
        return False
    if not is_tuple(weights, len(table), len(table)) or not all([is_whole(weight) for weight in weights]):
        return False
    for place, reached, more in weighed_steps(table, letters, word, above, below):
        if sign_of(word) * (weights[place] - weights[reached]) > more:
            return False
    return True


def is_mean_of(table, letters, above, below, value):
    """Whether value is a round of a text of letters, with the mean above by below."""
    state, text = value
    if not is_state_of(table, state) or text_error(table, text) is not None or text == ():
        return False
    if not all([letter in letters for letter in text]):
        return False
    bits, reached = write(table, state, text)
    return reached == state and len(bits) * below == above * len(text)


def mean_weights(table, letters, word, above, below):
    """Weights of the states as a paper for word has them, above by below being the least, or the greatest, mean."""
    steps = weighed_steps(table, letters, word, above, below)
    weights = [0] * len(table)
    # No round gets less than nothing, so this ends: with the least that a way from each place gets.
    while lower_weights(steps, weights):
        pass
    return tuple([sign_of(word) * weight for weight in weights])


def lower_weights(steps, weights):
    """Lower the weights that are more than some step lets, once; whether there were any."""
    lowered = False
    for place, reached, more in steps:
        if weights[reached] + more < weights[place]:
            weights[place] = weights[reached] + more
            lowered = True
    return lowered


def weighed_steps(table, letters, word, above, below):
    """For each state and each of letters: the places of the state and of the one that comes, and what this step gets.

    It is how much below times the bits are above the mean, for "most" below it; so no round gets less than nothing if
    the mean is the least, or the greatest, one.
    """
    turns = turns_told(table, letters)
    steps = []
    for state in states_of(table):
        for turn in turns.values():
            bits, reached = step_by(turn, state)
            more = sign_of(word) * (below * bits - above)
            steps.append((state - len(table), reached - len(table), more))
    return steps


def sign_of(word):
    """1 for "least", -1 for "most": what is told of the one holds of the other the other way round."""
    return 1 if word == "least" else -1
