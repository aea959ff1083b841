"""Spreads: tables with given counts whose letters stand in blocks, or as evenly as can be."""


def in_blocks(counts):
    """The table with these counts whose letters ascend from cell to cell ([I2])."""
    return tuple([letter for letter, count in counts for _ in range(count)])


def evenly(counts):
    """The table with these counts in which the cells of all letters stand in the order of their places ([I2])."""
    # All places are told as whole numbers, in parts that fit into each of them.
    parts = 1
    for _, count in counts:
        parts *= count
    cells = [((2 * k + 1) * parts // count, letter) for letter, count in counts for k in range(count)]
    return tuple([letter for _, letter in sorted(cells)])
