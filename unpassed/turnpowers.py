"""Powers of turns."""

from unpassed.turns import plain_turn, then


def power(turn, times):
    """The turn that leads as turn does so many times ([C5])."""
    told = plain_turn(len(turn))
    square = turn
    while times > 0:
        if times % 2 == 1:
            told = then(told, square)
        square = then(square, square)
        times //= 2
    return told
