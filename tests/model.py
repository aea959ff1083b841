"""What the document says, told in another way than the program does it: by writing letters; slow, for tests alone."""

import itertools
import math
from fractions import Fraction


def cells_with(table, letter):
    return [cell for cell in range(len(table)) if table[cell] == letter]


def written_letter(table, state, letter):
    """The bits and the state behind one letter: the least number of halvings that makes the state small enough."""
    cells = cells_with(table, letter)
    halvings = min(many for many in range(7) if state >> many < 2 * len(cells))
    bits = tuple(state >> many & 1 for many in range(halvings))
    return bits, len(table) + cells[(state >> halvings) - len(cells)]


def written(table, state, text):
    bits = ()
    for letter in text:
        more, state = written_letter(table, state, letter)
        bits += more
    return bits, state


def letters_before(table):
    """For each state the triples (letter, bits, state ahead) of all writings of one letter that lead to it."""
    found = {state: [] for state in states_of(table)}
    for letter in sorted(set(table)):
        for state in states_of(table):
            bits, reached = written_letter(table, state, letter)
            found[reached].append((letter, bits, state))
    return found


def read_letter(before, state, bits):
    """The letter, the state ahead of it and the bits left, None if the bits do not last."""
    for letter, taken, ahead in before[state]:
        if len(taken) <= len(bits) and bits[len(bits) - len(taken):] == taken:
            return letter, ahead, bits[:len(bits) - len(taken)]
    return None


def read_letters(table, state, bits, most):
    """The text, state and bits that are left when most letters were read, or as many as the bits last for."""
    before = letters_before(table)
    text = []
    while len(text) < most:
        step = read_letter(before, state, bits)
        if step is None:
            break
        letter, state, bits = step
        text.insert(0, letter)
    return tuple(text), state, bits


def states_of(table):
    return range(len(table), 2 * len(table))


def height_behind(table, state, text):
    """The height of the state behind text, as many turns up as bits come."""
    bits, reached = written(table, state, text)
    return len(bits) * len(table) + reached - len(table)


def some_states(table):
    """All states of a small table; of a great one the least, the greatest and those beside the powers of two."""
    states = states_of(table)
    if len(table) <= 8:
        return list(states)
    near = [2 ** many + off for many in range(8) for off in (-1, 0, 1)]
    return sorted({states[0], states[1], states[-2], states[-1], *[state for state in near if state in states]})


def walked(table, text, state):
    """The states to which the text leads, from state on, till one comes again, the bits of each time, and which one."""
    states, bits = [state], []
    while True:
        more, reached = written(table, states[-1], text)
        bits.append(len(more))
        if reached in states:
            return states, bits, states.index(reached)
        states.append(reached)


def round_of(table, text, state):
    """The round into which the text leads from state, from its least state on, and the bits that it costs."""
    states, bits, at = walked(table, text, state)
    first = states.index(min(states[at:]))
    return tuple(states[first:] + states[at:first]), sum(bits[at:])


def all_texts(table, most):
    """All tuples of at most so many letters of table, shorter ones first."""
    return [text for many in range(most + 1) for text in itertools.product(sorted(set(table)), repeat=many)]


def least_letters(table, parted):
    """For each pair of states how many letters it takes at least to part it, or to let it meet; for all that can be.

    One row of pairs after the other: those for which some letter does it, or leads to a pair of the row ahead.
    """
    steps = {state: [written_letter(table, state, letter) for letter in sorted(set(table))]
             for state in states_of(table)}
    pairs = [(one, other) for one in states_of(table) for other in states_of(table)]
    found = {} if parted else {(one, other): 0 for one, other in pairs if one == other}
    row = 0
    while True:
        row += 1
        more = [pair for pair in pairs if pair not in found and does(steps, pair, parted, found)]
        if not more:
            return found
        found.update({pair: row for pair in more})


def does(steps, pair, parted, found):
    for (bits, state), (more, beside) in zip(steps[pair[0]], steps[pair[1]]):
        if parted and len(bits) != len(more):
            return True
        if (state, beside) in found:
            return True
    return False


def states_left(table, text):
    return tuple(sorted({written(table, state, text)[1] for state in states_of(table)}))


def rows_left(table):
    """All tuples of states that any texts leave, each with the least number of letters that does it."""
    letters = sorted(set(table))
    found = {tuple(states_of(table)): 0}
    row = list(found)
    while row:
        ahead, row = row, []
        for states in ahead:
            for letter in letters:
                left = tuple(sorted({written_letter(table, state, letter)[1] for state in states}))
                if left not in found:
                    found[left] = found[states] + 1
                    row.append(left)
    return found


def gained(one, other, pair, text):
    """What the text gains from a pair of states on, and the pair to which it leads."""
    bits, state = written(one, pair[0], text)
    more, beside = written(other, pair[1], text)
    return len(bits) - len(more), (state, beside)


def pairs_beside(one, other):
    return [(state, beside) for state in states_of(one) for beside in states_of(other)]


def excess_of(one, other):
    """The most that any text gains, None if there is no most: texts of one letter more, as often as there are pairs."""
    steps = {(pair, letter): gained(one, other, pair, (letter,))
             for pair in pairs_beside(one, other) for letter in sorted(set(one))}
    most = {pair: 0 for pair in pairs_beside(one, other)}
    for _ in range(len(most) + 1):
        further = dict(most)
        for (pair, _), (gain, reached) in steps.items():
            further[pair] = max(further[pair], gain + most[reached])
        if further == most:
            return max(most.values())
        most = further
    return None


def is_excess_round(one, other, state, beside, text):
    """Whether states and a text of the tables make a round that gains."""
    gain, reached = gained(one, other, (state, beside), text)
    return reached == (state, beside) and gain > 0


def is_excess_paper(one, other, most, rows, way):
    """Whether this is a paper of the tables; its parts are of the right kinds."""
    weights = {pair: rows[pair[0] - len(one)][pair[1] - len(other)] for pair in pairs_beside(one, other)}
    if min(weights.values()) < 0 or max(weights.values()) > most or gained(one, other, way[:2], way[2])[0] != most:
        return False
    for pair in weights:
        for letter in set(one):
            gain, reached = gained(one, other, pair, (letter,))
            if weights[reached] < weights[pair] + gain:
                return False
    return True


def means_of(table, letters):
    """The least and the greatest mean of a round of at most as many letters as the table has cells."""
    steps = {state: [written_letter(table, state, letter) for letter in letters] for state in states_of(table)}
    means = []
    for start in states_of(table):
        reached = {start: (0, 0)}
        for many in range(1, len(table) + 1):
            further = {}
            for state, (least, most) in reached.items():
                for bits, behind in steps[state]:
                    low, high = further.get(behind, (10 ** 9, -1))
                    further[behind] = min(low, least + len(bits)), max(high, most + len(bits))
            reached = further
            if start in reached:
                means.extend([Fraction(bits, many) for bits in reached[start]])
    return min(means), max(means)


def is_mean_paper(table, letters, word, paper):
    """Whether this is a paper for word; its parts are of the right kinds, its text is one of letters."""
    above, below, start, text, weights = paper
    bits, reached = written(table, start, text)
    if math.gcd(above, below) != 1 or below < 1 or reached != start or Fraction(len(bits), len(text)) != Fraction(above, below):
        return False
    for state in states_of(table):
        for letter in letters:
            bits, behind = written_letter(table, state, letter)
            one = below * len(bits) + weights[behind - len(table)]
            other = above + weights[state - len(table)]
            if one < other if word == "least" else one > other:
                return False
    return True


def bits_of_all(table, letters, state, many):
    """How many texts of so many of letters cost how many bits from state on, by the bits: one letter after the other."""
    ways = {(state, 0): 1}
    for _ in range(many):
        further = {}
        for (start, bits), number in ways.items():
            for letter in letters:
                more, reached = written_letter(table, start, letter)
                key = reached, bits + len(more)
                further[key] = further.get(key, 0) + number
        ways = further
    found = {}
    for (_, bits), number in ways.items():
        found[bits] = found.get(bits, 0) + number
    return found


def even_table(counts):
    """The table in which all cells stand in the order of their places as fractions."""
    cells = [(Fraction(2 * k + 1, count), letter) for letter, count in counts for k in range(count)]
    return tuple([letter for _, letter in sorted(cells)])


def tables_with(counts):
    """All tables with these counts, ascending; for few cells alone."""
    cells = [letter for letter, count in counts for _ in range(count)]
    return sorted(set(itertools.permutations(cells)))


def cost_of(table, text):
    """What the text costs each time for ever."""
    states, bits, at = walked(table, text, len(table))
    return Fraction(sum(bits[at:]), len(states) - at)


def line_written(book, state, line):
    bits = ()
    for place, letter in line:
        more, state = written_letter(book[place], state, letter)
        bits += more
    return bits, state


def book_rows(book):
    """All tuples of states that any right lines leave."""
    tables = {table for table in book}
    found = {tuple(states_of(book[0]))}
    row = list(found)
    while row:
        ahead, row = row, []
        for states in ahead:
            for table in tables:
                for letter in set(table):
                    left = tuple(sorted({written_letter(table, state, letter)[1] for state in states}))
                    if left not in found:
                        found.add(left)
                        row.append(left)
    return found


def whole_written(table, state, many):
    """The shares of all texts of so many letters together."""
    found = bits_of_all(table, sorted(set(table)), state, many)
    return sum([Fraction(number, 2 ** bits) for bits, number in found.items()])


def read_steps(table, state):
    """The states to which tossing bits leads by one letter, each with its share: shorter tosses first."""
    before = letters_before(table)
    found, rows = {}, [()]
    while rows:
        further = []
        for bits in rows:
            step = read_letter(before, state, bits)
            if step is None:
                # What is tossed later is taken later, so it stands ahead.
                further.extend([(0,) + bits, (1,) + bits])
            else:
                found[step[1]] = found.get(step[1], 0) + Fraction(1, 2 ** len(bits))
        rows = further
    return found


def tells(one, other, text):
    """Whether the two tables write the text with unlike numbers of bits, each from its first state."""
    return len(written(one, len(one), text)[0]) != len(written(other, len(other), text)[0])


def least_telling(one, other):
    """How many letters a text has at least that the tables write with unlike numbers of bits, None if there is none."""
    row, found, many = {(len(one), len(other))}, set(), 0
    while row:
        many += 1
        further = set()
        for state, beside in row:
            for letter in set(one):
                bits, reached = written_letter(one, state, letter)
                more, behind = written_letter(other, beside, letter)
                if len(bits) != len(more):
                    return many
                further.add((reached, behind))
        found |= row
        row = further - found
    return None
