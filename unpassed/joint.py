"""What one table can ever cost more than another one, and texts that show that there is no bound."""

from unpassed.errors import Endless
from unpassed.gains import check_joint, gain_of, greatest_gains
from unpassed.kinds import is_state_of, is_tuple
from unpassed.tables import text_error


def excess(one, other):
    """The least integer such that no text gains more ([G2])."""
    check_joint(one, other)
    weights, _ = greatest_gains(one, other)
    return max(list(weights.values()))


def round_holds(one, other, value):
    """Whether value is a round ([G3])."""
    check_joint(one, other)
    if not is_tuple(value, 4, 4) or value[0] != "round":
        return False
    _, state, beside, text = value
    if not is_state_of(one, state) or not is_state_of(other, beside) or text_error(one, text) is not None:
        return False
    # What () gains is 0, so it is turned away, too.
    gain, reached = gain_of(one, other, (state, beside), text)
    return reached == (state, beside) and gain > 0


def unlike_text(one, other):
    """A text other than () that costs unlike much for ever by one and by other, None if there is none ([G3])."""
    check_joint(one, other)
    try:
        greatest_gains(one, other)
        greatest_gains(other, one)
    except Endless as error:
        # The text of a round that gains costs whole bits each time, by one table more than by the other one.
        return error.paper[3]
    return None
