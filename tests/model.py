"""What the document says of writing, told in another way than the program does it; slow, for tests alone."""


def cells_with(table, letter):
    return [cell for cell in range(len(table)) if table[cell] == letter]


def written_letter(table, state, letter):
    """The bits and the state behind one letter: the least number of halvings that makes the state small enough."""
    cells = cells_with(table, letter)
    halvings = min(many for many in range(7) if state >> many < 2 * len(cells))
    bits = tuple(state >> many & 1 for many in range(halvings))
    return bits, len(table) + cells[(state >> halvings) - len(cells)]


def written(table, state, text):
    bits = ()
    for letter in text:
        more, state = written_letter(table, state, letter)
        bits += more
    return bits, state


def letters_before(table):
    """For each state the triples (letter, bits, state ahead) of all writings of one letter that lead to it."""
    found = {state: [] for state in states_of(table)}
    for letter in sorted(set(table)):
        for state in states_of(table):
            bits, reached = written_letter(table, state, letter)
            found[reached].append((letter, bits, state))
    return found


def read_letter(before, state, bits):
    """The letter, the state ahead of it and the bits left, None if the bits do not last."""
    for letter, taken, ahead in before[state]:
        if len(taken) <= len(bits) and bits[len(bits) - len(taken):] == taken:
            return letter, ahead, bits[:len(bits) - len(taken)]
    return None


def read_letters(table, state, bits, most):
    """The text, state and bits that are left when most letters were read, or as many as the bits last for."""
    before = letters_before(table)
    text = []
    while len(text) < most:
        step = read_letter(before, state, bits)
        if step is None:
            break
        letter, state, bits = step
        text.insert(0, letter)
    return tuple(text), state, bits


def states_of(table):
    return range(len(table), 2 * len(table))


def height_behind(table, state, text):
    """The height of the state behind text, as many turns up as bits come."""
    bits, reached = written(table, state, text)
    return len(bits) * len(table) + reached - len(table)


def some_states(table):
    """All states of a small table; of a great one the least, the greatest and those beside the powers of two."""
    states = states_of(table)
    if len(table) <= 8:
        return list(states)
    near = [2 ** many + off for many in range(8) for off in (-1, 0, 1)]
    return sorted({states[0], states[1], states[-2], states[-1], *[state for state in near if state in states]})
