"""Lengths: which tables texts can have been written by that cost so many bits, and texts that tell tables apart."""

from unpassed.bounds import MAX_SHORT, MAX_TABLES
from unpassed.errors import TooMany
from unpassed.gains import check_joint
from unpassed.growths import grown_tables
from unpassed.kinds import is_letter_of, is_tuple, is_whole
from unpassed.starts import shortest_parting
from unpassed.steps import letter_turns
from unpassed.writing import bit_count


def seen_error(letters, value):
    """None for a sighting of letters, otherwise "form", ("item", place) or "long" ([L2])."""
    if not is_tuple(value, 0, MAX_SHORT):
        return "form"
    for place, item in enumerate(value):
        if not is_seen(letters, item):
            return "item", place
    if sum([len(text) for text, _ in value]) > MAX_SHORT:
        return "long"
    return None


def fitting(many, letters, seen):
    """All choices that fit the sighting seen, ascending ([L3])."""
    return tuple([table for table in all_choices(many, letters) if fits(table, seen)])


def sure_cells(many, letters, seen):
    """For each cell the letter that all fitting tables have there, None where they have unlike ones ([L3])."""
    tables = fitting(many, letters, seen)
    return tuple([column[0] if column.count(column[0]) == len(column) else None for column in zip(*tables)])


def bits_told(many, letters, seen, text):
    """The numbers of bits with which the fitting tables write text, ascending ([L3])."""
    return tuple(sorted({bit_count(table, many, text) for table in fitting(many, letters, seen)}))


def telling_text(one, other):
    """A shortest text that two tables write with unlike numbers of bits, None if there is none ([L4])."""
    check_joint(one, other)
    return shortest_parting(letter_turns(one), letter_turns(other), (len(one), len(other)))


def is_seen(letters, value):
    """Whether value is a pair of a tuple of these letters and of an integer from 0 on."""
    if not is_tuple(value, 2, 2) or not isinstance(value[0], tuple):
        return False
    text, bits = value
    return all([is_letter_of(letters, letter) for letter in text]) and is_whole(bits) and bits >= 0


def all_choices(many, letters):
    """All choices, ascending; TooMany is raised if there are more than are gone through."""
    if choice_many(many, len(letters)) > MAX_TABLES:
        raise TooMany(MAX_TABLES)

    def may_grow(row, letter):
        """Whether there are still as many cells behind the letter as letters that have none."""
        return len(letters) - len(set(row + (letter,))) < many - len(row)

    return grown_tables(many, letters, may_grow)


def choice_many(many, kinds):
    """How many tables of many cells have just so many letters, which are given."""
    # ways[k] tells in how many ways the cells till now have k of the letters; a further cell has one of these, or not.
    ways = [1] + [0] * kinds
    for _ in range(many):
        ways = [0] + [ways[k] * k + ways[k - 1] * (kinds - k + 1) for k in range(1, kinds + 1)]
    return ways[kinds]


def fits(table, seen):
    """Whether table writes each text of the sighting with as many bits as it tells."""
    return all([bit_count(table, len(table), text) == bits for text, bits in seen])
