"""Counts for the tests of tables that have them ([I])."""

import random

# Few enough cells that all orders of them can be gone through.
SMALL = (
    ((0, 1),), ((25, 1),), ((4, 3),), ((0, 1), (1, 1)), ((0, 3), (1, 1)), ((0, 2), (1, 2)), ((3, 1), (20, 4)),
    ((0, 2), (1, 1), (2, 1)), ((1, 2), (5, 2), (7, 2)), ((0, 1), (2, 1), (4, 1), (6, 1), (8, 1)), ((0, 5), (1, 2)),
    ((0, 3), (1, 3)), ((2, 1), (5, 2), (7, 1)), ((0, 4), (1, 1), (25, 1)), ((0, 1), (1, 2), (2, 3)),
)

# Of 1980 tables there are the most that are no more than 2000; 2002 are the fewest that are.
MOST_TABLES = (((0, 1), (1, 1), (2, 43)), ((0, 43), (1, 1), (2, 1)), ((0, 2), (1, 7), (2, 2)), ((0, 8), (7, 1), (9, 3)))
MORE_TABLES = (((0, 9), (1, 5)), ((0, 5), (1, 9)), ((0, 62), (1, 2)), ((0, 32), (1, 32)), ((3, 7), (4, 7)),
               tuple([(letter, 1) for letter in range(26)]), ((0, 44), (1, 1), (2, 1)))
GREAT = MOST_TABLES + MORE_TABLES + (
    ((4, 64),), ((4, 63),), ((0, 61), (1, 2)), ((0, 63), (25, 1)), ((0, 1), (1, 63)),
    tuple([(letter, 2) for letter in range(26)]), ((0, 5), (1, 17), (2, 42)), ((1, 13), (2, 11), (3, 7), (4, 29)),
)


def drawn_counts(seed, many, cells):
    """So many drawn counts of at most so many cells."""
    draw = random.Random(seed)
    found = []
    for _ in range(many):
        left = draw.randint(1, cells)
        letters = sorted(draw.sample(range(26), draw.randint(1, min(left, 26))))
        counts = [1 for _ in letters]
        for _ in range(left - len(letters)):
            counts[draw.randrange(len(letters))] += 1
        found.append(tuple(zip(letters, counts)))
    return found
