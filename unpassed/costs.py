"""Costs: how many bits a text that is written again and again costs each time."""

from unpassed.kinds import is_state_of, is_tuple, is_whole
from unpassed.ratios import least_terms
from unpassed.rounds import rounds, turn_rounds
from unpassed.turnpowers import power
from unpassed.turns import led, text_turn


def cost(table, text):
    """The cost of the turn of the text ([D2])."""
    return turn_cost(text_turn(table, text))


def turn_cost(turn):
    """The cost of a turn ([D2])."""
    # All rounds have one cost ([D5]), so the first one tells it.
    places = turn_rounds(turn)[0]
    height = led(power(turn, len(places)), places[0])
    return least_terms((height - places[0]) // len(turn), len(places))


def cost_holds(table, text, value):
    """Whether value is a triple of the cost of the text and of a round of it ([D3])."""
    if not is_tuple(value, 3, 3):
        return False
    above, below, states = value
    if not is_whole(above) or not is_whole(below) or (above, below) != cost(table, text):
        return False
    if not is_tuple(states, 1, len(table)) or not all([is_state_of(table, state) for state in states]):
        return False
    first = states.index(min(states))
    return states[first:] + states[:first] in rounds(table, text)
