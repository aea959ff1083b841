"""Moves: the whole numbers of bits that letters cost behind a comb."""

from unpassed.combs import is_comb
from unpassed.errors import Unfit
from unpassed.steps import letter_turns
from unpassed.turns import image_of, led, text_turn


def moves(table, text):
    """The pairs of each letter and of its bits with the comb text behind it ([F4])."""
    if not is_comb(table, text):
        raise Unfit()
    turn = text_turn(table, text)
    # From all places that the comb leaves the bits are the same ([F6]), so the first one tells them.
    place = image_of(turn)[0]
    told = []
    for letter, own in letter_turns(table).items():
        height = led(turn, led(own, place))
        told.append((letter, (height - place) // len(table)))
    return tuple(told)


def combed(table, text, letters):
    """The bits of letters if the comb text is written behind each of them ([F4])."""
    bits = dict(moves(table, text))
    return sum([bits[letter] for letter in letters])
