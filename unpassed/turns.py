"""Turns: what a letter or a text does to all states at once, told by heights."""

from unpassed.bounds import MAX_CELLS, MAX_LETTER
from unpassed.checks import check_letter, check_letters
from unpassed.errors import Unfit
from unpassed.kinds import is_letter, is_tuple, is_whole
from unpassed.tables import cells_of, letters_of
from unpassed.writing import letter_written


def turn_error(many, value):
    """None for a turn of a ring of many places, otherwise "form", ("falls", i) or "passes" ([C2])."""
    if not is_tuple(value, many, many) or not all([is_whole(item) for item in value]):
        return "form"
    for place in range(1, many):
        if value[place] < value[place - 1]:
            return "falls", place
    if value[-1] > value[0] + many:
        return "passes"
    return None


def led(turn, height):
    """The height to which the turn leads height ([C2])."""
    whole, place = divmod(height, len(turn))
    return whole * len(turn) + turn[place]


def plain_turn(many):
    """The turn of a ring of many places that leads each height to itself ([C2])."""
    return tuple(range(many))


def letter_turn(table, letter):
    """The turn of the letter ([C3])."""
    check_letter(table, letter)
    many = len(table)
    cells = cells_of(table, letter)
    heights = []
    for state in range(many, 2 * many):
        bits, reached = letter_written(many, cells, state)
        heights.append(len(bits) * many + reached - many)
    return tuple(heights)


def text_turn(table, text):
    """The turn of the text ([C3])."""
    check_letters(table, text)
    return turn_behind(len(table), {letter: letter_turn(table, letter) for letter in sorted(set(text))}, text)


def turn_behind(many, turns, steps):
    """The turn of a ring of many places that leads as all of steps do, one behind another; turns tells that of each."""
    turn = plain_turn(many)
    for step in steps:
        turn = then(turn, turns[step])
    return turn


def then(one, other):
    """The turn that leads as first one does, then other ([C5])."""
    return tuple([led(other, height) for height in one])


def image_of(turn):
    """The places of all heights to which the turn leads some height, ascending ([C5])."""
    return tuple(sorted({height % len(turn) for height in turn}))


def table_of(value):
    """The table of whose letters value is the tuple of the pairs (letter, turn of it) ([C6])."""
    if not is_letters_and_turns(value):
        raise Unfit()
    # The cells of a letter are the places to which its turn leads, so no other table can be the one. If a place has
    # no letter, or two, the turns of the table that is left are not those of value.
    bearers = {place: letter for letter, turn in value for place in image_of(turn)}
    table = tuple([bearers[place] for place in sorted(bearers)])
    if tuple([(letter, letter_turn(table, letter)) for letter in letters_of(table)]) != value:
        raise Unfit()
    return table


def is_letters_and_turns(value):
    """Whether value is a tuple, not (), of pairs of a letter and of a turn, all of one ring."""
    if not is_tuple(value, 1, MAX_LETTER + 1):
        return False
    if not all([is_tuple(item, 2, 2) and is_letter(item[0]) and is_tuple(item[1], 1, MAX_CELLS) for item in value]):
        return False
    many = len(value[0][1])
    return all([turn_error(many, turn) is None for _, turn in value])
