"""Two tables beside one another: what letters gain ([G1]) from each pair of their states."""

from unpassed.bounds import MAX_JOINT
from unpassed.errors import Endless, TooMany, Unfit
from unpassed.steps import letter_turns, states_of, step_by
from unpassed.tables import letters_of
from unpassed.writing import write


def check_joint(one, other):
    """Raise Unfit if two tables have unlike letters, then TooMany if they are too great together."""
    letters = letters_of(one)
    if letters != letters_of(other):
        raise Unfit()
    if len(one) * len(other) * len(letters) > MAX_JOINT:
        raise TooMany(MAX_JOINT)


def gain_of(one, other, pair, text):
    """How much the text gains from a pair of states on, and the pair to which it leads."""
    bits, state = write(one, pair[0], text)
    more, beside = write(other, pair[1], text)
    return len(bits) - len(more), (state, beside)


def gain_steps(one, other):
    """For each pair of states and each letter: the pair, the letter, what it gains, and the pair to which it leads."""
    turns, others = letter_turns(one), letter_turns(other)
    steps = []
    for pair in state_pairs(one, other):
        for letter in turns:
            bits, state = step_by(turns[letter], pair[0])
            more, beside = step_by(others[letter], pair[1])
            steps.append((pair, letter, bits - more, (state, beside)))
    return steps


def state_pairs(one, other):
    """All pairs of a state of one and of a state of other, ascending."""
    return [(state, beside) for state in states_of(one) for beside in states_of(other)]


def greatest_gains(one, other):
    """The most that a text can gain which leads to a pair of states, for each pair, and how it comes there.

    How is told by a dict with the pair and the letter ahead of it for each pair to which some letter should lead.
    Endless is raised if there is no most, with a round that gains.
    """
    steps = gain_steps(one, other)
    weights = {pair: 0 for pair in state_pairs(one, other)}
    ahead = {}
    while raise_weights(steps, weights, ahead):
        # Each pair was raised for what is ahead of it, so a round of pairs each ahead of the next one gains. As long
        # as there is none, no weight is more than what a text gains that comes to no pair twice: so this ends.
        pair = pair_ahead_of_itself(ahead)
        if pair is not None:
            _, text = way_to(ahead, pair)
            raise Endless(("round", pair[0], pair[1], text))
    return weights, ahead


def raise_weights(steps, weights, ahead):
    """Raise the weights that are less than some letter asks for, once; whether there were any."""
    raised = False
    for pair, letter, gain, reached in steps:
        if weights[pair] + gain > weights[reached]:
            weights[reached] = weights[pair] + gain
            ahead[reached] = (pair, letter)
            raised = True
    return raised


def pair_ahead_of_itself(ahead):
    """A pair that comes again if one goes from it to the pair ahead, again and again; None if there is none."""
    walks = {}
    for number, start in enumerate(ahead):
        pair = start
        while pair in ahead and pair not in walks:
            walks[pair] = number
            pair = ahead[pair][0]
        if pair in ahead and walks[pair] == number:
            return pair
    return None


def way_to(ahead, pair):
    """The pair from which ahead comes to pair, and the text by which it does; from pair itself if it goes round."""
    letters = []
    start = pair
    while start in ahead:
        start, letter = ahead[start]
        letters.append(letter)
        if start == pair:
            break
    return start, tuple(letters[::-1])
