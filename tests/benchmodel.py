"""What the document says of benches, told in another way: all edits are done anew each time; slow, for tests alone."""

import re

from tests.model import cost_of, states_of, written
from unpassed.errors import (
    BadBatch, BadTable, NoLetter, NoName, NothingToRedo, NothingToUndo, NoVersion, Rejected, RingError, TooMany,
    TooManyEdits, Unfit,
)

ARGUMENTS = {"keep": 2, "drop": 1, "exchange": 3, "put": 3, "take": 2}


def whole(value):
    return type(value) is int


def name_right(value):
    return type(value) is str and re.fullmatch("[a-z]{1,8}", value) is not None and value != "none"


def table_told(value):
    if type(value) is not tuple or not 1 <= len(value) <= 64:
        return "form"
    wrong = [place for place, cell in enumerate(value) if not whole(cell) or not 0 <= cell <= 25]
    return ("cell", wrong[0]) if wrong else None


def done(shelf, edit):
    """The shelf, a dict, behind an edit."""
    if edit[0] == "batch":
        return done_all(shelf, edit[1])
    word, name = edit[0], edit[1]
    if word == "keep":
        if not name_right(name):
            raise Unfit()
        if table_told(edit[2]) is not None:
            raise BadTable(table_told(edit[2]))
        if name not in shelf and len(shelf) == 6:
            raise TooMany(6)
        return {**shelf, name: edit[2]}
    if not name_right(name) or name not in shelf:
        raise NoName(name)
    if word == "drop":
        return {own: table for own, table in shelf.items() if own != name}
    return {**shelf, name: changed(list(shelf[name]), word, edit[2:])}


def changed(cells, word, numbers):
    """The cells behind an edit of one table."""
    fits = [whole(number) and 0 <= number < len(cells) for number in numbers]
    if word == "exchange":
        if not fits[0] or not fits[1]:
            raise Unfit()
        one, other = numbers
        cells[one], cells[other] = cells[other], cells[one]
    elif word == "put":
        if not fits[0] and not (whole(numbers[0]) and numbers[0] == len(cells)):
            raise Unfit()
        if not whole(numbers[1]) or not 0 <= numbers[1] <= 25:
            raise NoLetter(numbers[1])
        if len(cells) == 64:
            raise TooMany(64)
        cells.insert(*numbers)
    else:
        if not fits[0] or len(cells) < 2:
            raise Unfit()
        del cells[numbers[0]]
    return tuple(cells)


def done_all(shelf, edits):
    if type(edits) is not tuple or len(edits) > 12:
        raise BadBatch()
    for edit in edits:
        if type(edit) is not tuple or not edit or type(edit[0]) is not str or len(edit) != 1 + ARGUMENTS.get(edit[0], -1):
            raise BadBatch()
    for place, edit in enumerate(edits):
        try:
            shelf = done(shelf, edit)
        except RingError:
            raise Rejected(place) from None
    return shelf


class SlowBench:
    """A bench that keeps its edits alone, and does them anew whenever it is asked."""

    def __init__(self):
        self.edits, self.undone, self.pairs = [], [], set()

    def after(self, many):
        shelf = {}
        for edit in self.edits[:many]:
            shelf = done(shelf, edit)
        return shelf

    def shelf(self):
        return tuple(sorted(self.after(len(self.edits)).items()))

    def edit(self, *edit):
        done(self.after(len(self.edits)), edit)
        if len(self.edits) == 40:
            raise TooManyEdits()
        self.edits.append(edit)
        self.undone = []
        return len(self.edits)

    def undo(self):
        if not self.edits:
            raise NothingToUndo()
        self.undone.append(self.edits.pop())
        return len(self.edits)

    def redo(self):
        if not self.undone:
            raise NothingToRedo()
        self.edits.append(self.undone.pop())
        return len(self.edits)

    def at(self, version):
        if not whole(version) or not 0 <= version <= len(self.edits):
            raise NoVersion(version)
        return tuple(sorted(self.after(version).items()))

    def copy(self):
        other = SlowBench()
        other.edits, other.undone, other.pairs = list(self.edits), list(self.undone), set(self.pairs)
        return other

    def table_for(self, name, text):
        shelf = dict(self.shelf())
        if not name_right(name) or name not in shelf:
            raise NoName(name)
        if type(text) is not tuple or len(text) > 2000:
            raise Unfit()
        if [letter for letter in text if not whole(letter) or letter not in shelf[name]]:
            raise Unfit()
        return shelf[name]

    def bits(self, name, text):
        table = self.table_for(name, text)
        return len(written(table, len(table), text)[0])

    def turn(self, name, text):
        table = self.table_for(name, text)
        self.pairs.add((table, text))
        told = [written(table, state, text) for state in states_of(table)]
        return tuple([(len(bits) - 1) * len(table) + state for bits, state in told])

    def cost(self, name, text):
        table = self.table_for(name, text)
        if text == ():
            raise Unfit()
        self.pairs.add((table, text))
        told = cost_of(table, text)
        return told.numerator, told.denominator
