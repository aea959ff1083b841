"""Machines: what all letters cost, and where they lead, told by stretches instead of by states."""

from unpassed.starts import stretches
from unpassed.steps import letter_turns, step_by


def machine_of(table):
    """For each stretch, by its number, the triples (letter, bits, number) of all letters ([E5])."""
    turns = letter_turns(table)
    parts = stretches(table)
    numbers = {state: number for number, states in enumerate(parts) for state in states}
    rows = []
    for states in parts:
        # The states of a stretch are alike, so the first one tells what holds for all of them.
        steps = [(letter, step_by(turn, states[0])) for letter, turn in turns.items()]
        rows.append(tuple([(letter, bits, numbers[reached]) for letter, (bits, reached) in steps]))
    return tuple(rows)


def machine_bits(machine, number, text):
    """How many bits the text costs by the machine from number on ([E6])."""
    ways = [{letter: (bits, reached) for letter, bits, reached in row} for row in machine]
    told = 0
    for letter in text:
        bits, number = ways[number][letter]
        told += bits
    return told
