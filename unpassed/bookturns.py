"""Lines of books as turns: what they cost for ever, and how few states they leave."""

from unpassed.costs import turn_cost
from unpassed.lots import lots_behind
from unpassed.steps import letter_turns
from unpassed.turns import letter_turn, turn_behind


def line_turn(book, line):
    """The turn of a right line ([J5])."""
    turns = {(place, letter): letter_turn(book[place], letter) for place, letter in sorted(set(line))}
    return turn_behind(len(book[0]), turns, line)


def line_cost(book, line):
    """The bits that a right line costs each time if it is written again and again, as a fraction ([J5])."""
    return turn_cost(line_turn(book, line))


def book_rank(book):
    """The least number of states to which a right line leads all states ([J5])."""
    # A line that leads to as few as can be leads to one state of each lot ([J6]).
    return len(lots_behind([turn for table in book for turn in letter_turns(table).values()]))
