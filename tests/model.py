"""What the document says, told in another way than the program does it: by writing letters; slow, for tests alone."""

import itertools


def cells_with(table, letter):
    return [cell for cell in range(len(table)) if table[cell] == letter]


def written_letter(table, state, letter):
    """The bits and the state behind one letter: the least number of halvings that makes the state small enough."""
    cells = cells_with(table, letter)
    halvings = min(many for many in range(7) if state >> many < 2 * len(cells))
    bits = tuple(state >> many & 1 for many in range(halvings))
    return bits, len(table) + cells[(state >> halvings) - len(cells)]


def written(table, state, text):
    bits = ()
    for letter in text:
        more, state = written_letter(table, state, letter)
        bits += more
    return bits, state


def letters_before(table):
    """For each state the triples (letter, bits, state ahead) of all writings of one letter that lead to it."""
    found = {state: [] for state in states_of(table)}
    for letter in sorted(set(table)):
        for state in states_of(table):
            bits, reached = written_letter(table, state, letter)
            found[reached].append((letter, bits, state))
    return found


def read_letter(before, state, bits):
    """The letter, the state ahead of it and the bits left, None if the bits do not last."""
    for letter, taken, ahead in before[state]:
        if len(taken) <= len(bits) and bits[len(bits) - len(taken):] == taken:
            return letter, ahead, bits[:len(bits) - len(taken)]
    return None


def read_letters(table, state, bits, most):
    """The text, state and bits that are left when most letters were read, or as many as the bits last for."""
    before = letters_before(table)
    text = []
    while len(text) < most:
        step = read_letter(before, state, bits)
        if step is None:
            break
        letter, state, bits = step
        text.insert(0, letter)
    return tuple(text), state, bits


def states_of(table):
    return range(len(table), 2 * len(table))


def height_behind(table, state, text):
    """The height of the state behind text, as many turns up as bits come."""
    bits, reached = written(table, state, text)
    return len(bits) * len(table) + reached - len(table)


def some_states(table):
    """All states of a small table; of a great one the least, the greatest and those beside the powers of two."""
    states = states_of(table)
    if len(table) <= 8:
        return list(states)
    near = [2 ** many + off for many in range(8) for off in (-1, 0, 1)]
    return sorted({states[0], states[1], states[-2], states[-1], *[state for state in near if state in states]})


def walked(table, text, state):
    """The states to which the text leads, from state on, till one comes again, the bits of each time, and which one."""
    states, bits = [state], []
    while True:
        more, reached = written(table, states[-1], text)
        bits.append(len(more))
        if reached in states:
            return states, bits, states.index(reached)
        states.append(reached)


def round_of(table, text, state):
    """The round into which the text leads from state, from its least state on, and the bits that it costs."""
    states, bits, at = walked(table, text, state)
    first = states.index(min(states[at:]))
    return tuple(states[first:] + states[at:first]), sum(bits[at:])


def all_texts(table, most):
    """All tuples of at most so many letters of table, shorter ones first."""
    return [text for many in range(most + 1) for text in itertools.product(sorted(set(table)), repeat=many)]


def least_letters(table, parted):
    """For each pair of states how many letters it takes at least to part it, or to let it meet; for all that can be.

    One row of pairs after the other: those for which some letter does it, or leads to a pair of the row ahead.
    """
    steps = {state: [written_letter(table, state, letter) for letter in sorted(set(table))]
             for state in states_of(table)}
    pairs = [(one, other) for one in states_of(table) for other in states_of(table)]
    found = {} if parted else {(one, other): 0 for one, other in pairs if one == other}
    row = 0
    while True:
        row += 1
        more = [pair for pair in pairs if pair not in found and does(steps, pair, parted, found)]
        if not more:
            return found
        found.update({pair: row for pair in more})


def does(steps, pair, parted, found):
    for (bits, state), (more, beside) in zip(steps[pair[0]], steps[pair[1]]):
        if parted and len(bits) != len(more):
            return True
        if (state, beside) in found:
            return True
    return False


def states_left(table, text):
    return tuple(sorted({written(table, state, text)[1] for state in states_of(table)}))


def rows_left(table):
    """All tuples of states that any texts leave, each with the least number of letters that does it."""
    letters = sorted(set(table))
    found = {tuple(states_of(table)): 0}
    row = list(found)
    while row:
        ahead, row = row, []
        for states in ahead:
            for letter in letters:
                left = tuple(sorted({written_letter(table, state, letter)[1] for state in states}))
                if left not in found:
                    found[left] = found[states] + 1
                    row.append(left)
    return found
