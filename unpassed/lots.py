"""Lots: the states from which texts lead to one another."""

from unpassed.steps import letter_turns, states_of, step_by
from unpassed.turns import image_of, text_turn


def lots(table):
    """All lots, by their least states ([F2])."""
    return lots_behind(list(letter_turns(table).values()))


def left_by(table, text):
    """The states that the text leaves, ascending ([F2])."""
    return tuple([len(table) + place for place in image_of(text_turn(table, text))])


def rank(table):
    """The least number of states that a text leaves ([F2])."""
    # A text that leaves as few as can be leaves one state of each lot ([F6]).
    return len(lots(table))


def lots_behind(turns):
    """All lots of states that these turns of one ring, one behind another, lead to one another, by their least ones."""
    found = []
    for state in states_of(turns[0]):
        # Lots have no state in common ([F6]), so a state of one that was found tells no new one.
        if all([state not in lot for lot in found]):
            found.append(states_behind(turns, state))
    return tuple(found)


def states_behind(turns, state):
    """All states to which the turns lead from state, ascending."""
    known = {state: True}
    row = [state]
    while row:
        row = new_states(turns, row, known)
    return tuple(sorted(known))


def new_states(turns, row, known):
    """The states to which the turns lead from those of row, and that are not known yet; known they are then."""
    found = []
    for state in row:
        for turn in turns:
            _, reached = step_by(turn, state)
            if reached not in known:
                known[reached] = True
                found.append(reached)
    return found
