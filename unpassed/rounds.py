"""Rounds: the rows of states through which a text that is written again and again leads for ever."""

from unpassed.checks import check_state
from unpassed.steps import step_by
from unpassed.turnpowers import power
from unpassed.turns import image_of, led, text_turn


def rounds(table, text):
    """The rounds of the text ([D3])."""
    many = len(table)
    told = turn_rounds(text_turn(table, text))
    return tuple([tuple([many + place for place in places]) for places in told])


def turn_rounds(turn):
    """The rounds of a turn, told by places ([D3])."""
    found = []
    for place in lasting_places(turn):
        if all([place not in places for places in found]):
            found.append(round_from(turn, place))
    return tuple(found)


def tail(table, text, state):
    """How often the text is written from state on until a round is reached, and the bits till then ([D4])."""
    check_state(table, state)
    turn = text_turn(table, text)
    ends = lasting_places(turn)
    height = state - len(table)
    times = 0
    while height % len(table) not in ends:
        height = led(turn, height)
        times += 1
    return times, height // len(table)


def bits_for(table, state, text, times):
    """The bits that come if the text is written so many times from state on, and the last state ([D4])."""
    check_state(table, state)
    return step_by(power(text_turn(table, text), times), state)


def lasting_places(turn):
    """The places that stand in rounds of the turn, ascending."""
    # No place comes twice ahead of a round, so as many times as there are places lead into the rounds.
    return image_of(power(turn, len(turn)))


def round_from(turn, place):
    """The round of the turn in which place stands, told from place on."""
    places = [place]
    reached = turn[place] % len(turn)
    while reached != place:
        places.append(reached)
        reached = turn[reached] % len(turn)
    return tuple(places)
