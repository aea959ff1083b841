"""Shares: where fair bits lead a reader, how often it is there, and what all texts make together."""

from math import gcd

from unpassed.checks import check_state
from unpassed.combs import check_combed
from unpassed.errors import Unfit
from unpassed.lots import rank
from unpassed.ratios import least_terms
from unpassed.steps import letter_turns, states_of, step_by, ways_of
from unpassed.tables import cells_of, letters_of


def reader_step(table):
    """For each state the pairs of a state to which reading one letter can lead, and of its share ([K2])."""
    told = [[] for _ in table]
    for turn in letter_turns(table).values():
        for state in states_of(table):
            # Reading leads back what writing leads on, by as many bits.
            bits, reached = step_by(turn, state)
            told[reached - len(table)].append((state, (1, 1 << bits)))
    return tuple([tuple(pairs) for pairs in told])


def state_shares(table):
    """For each state, ascending, how often the reader is there in the long run ([K3])."""
    parts = state_parts(table)
    return tuple([least_terms(part, sum(parts)) for part in parts])


def shares(table):
    """For each letter how often it is read in the long run ([K3])."""
    parts = state_parts(table)
    told = [(letter, sum([parts[cell] for cell in cells_of(table, letter)])) for letter in letters_of(table)]
    return tuple([(letter, least_terms(part, sum(parts))) for letter, part in told])


def whole_of(table, state, many):
    """The sum of the shares of all texts of many letters, written from state ([K4])."""
    check_state(table, state)
    ways = ways_of(list(letter_turns(table).values()))
    # With each letter all is told in parts so much smaller that the share of the dearest one is a whole number.
    most = max([bits for steps in ways for bits, _ in steps])
    sums = [1 for _ in ways]
    for _ in range(many):
        sums = [sum([sums[reached - len(table)] << (most - bits) for bits, reached in steps]) for steps in ways]
    return least_terms(sums[state - len(table)], 1 << (most * many))


def state_parts(table):
    """How many parts of a whole each state has in the long run; there is one lot, or Unfit is raised."""
    check_combed(table)
    if rank(table) > 1:
        raise Unfit()
    steps = reader_step(table)
    most = max([share[1] for pairs in steps for _, share in pairs])
    rates = []
    for pairs in steps:
        found = dict(pairs)
        rates.append([most // found[state][1] if state in found else 0 for state in states_of(table)])
    return lasting_parts(rates)


def lasting_parts(rates):
    """How many parts of a whole stay at each place, if as many leave it as come in.

    rates[one][other] tells how many of equal parts of what is at one go to other at a time; each place comes to each
    other one in the end.
    """
    if len(rates) == 1:
        return [1]
    parts = lasting_parts(without_last(rates))
    # As much goes out of the last place as comes into it.
    out = sum(rates[-1][:-1])
    into = sum([part * row[-1] for part, row in zip(parts, rates)])
    return [part * out for part in parts] + [into]


def without_last(rates):
    """The rates between all places but the last one, if whatever comes there goes on from it at once."""
    many = len(rates) - 1
    last = rates[-1]
    out = sum(last[:-1])
    rows = []
    for place, row in enumerate(rates[:-1]):
        # What stays where it is does not matter, and would only make the numbers grow.
        rows.append([0 if at == place else row[at] * out + row[-1] * last[at] for at in range(many)])
    common = divisor_of([rate for row in rows for rate in row])
    return [[rate // common for rate in row] for row in rows]


def divisor_of(numbers):
    """The greatest common divisor of the numbers, 1 if all of them are 0."""
    common = 0
    for number in numbers:
        common = gcd(common, number)
    return max(1, common)
