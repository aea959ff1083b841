"""Benches: names with tables, edits that can be taken back, and turns that are kept."""

from unpassed.bounds import MAX_EDITS
from unpassed.costs import turn_cost
from unpassed.edits import edited, is_name, table_named
from unpassed.errors import NothingToRedo, NothingToUndo, NoVersion, RingError, TooManyEdits, Unfit
from unpassed.kinds import is_within
from unpassed.tables import text_error
from unpassed.turns import text_turn
from unpassed.writing import bit_count


class Bench:
    """Names with tables, and the edits by which they came ([M1])."""

    def __init__(self):
        # Each edit makes a new dict, its names ascending, so what was the bench once can be kept as it is.
        self._tables = {}
        self._stages = [self._tables]
        self._edits = []
        self._undone = []
        self._turns = {}

    @property
    def shelf(self):
        """The pairs of each name, ascending, and of its table."""
        return tuple(self._tables.items())

    @property
    def version(self):
        """How many edits stand."""
        return len(self._edits)

    @property
    def log(self):
        """The edits that stand, in order."""
        return tuple(self._edits)

    @property
    def made(self):
        """Of how many pairs of a table and a text the turn was made."""
        return len(self._turns)

    def __len__(self):
        return len(self._tables)

    def __contains__(self, value):
        return is_name(value) and value in self._tables

    def __getitem__(self, name):
        return table_named(self._tables, name)

    def __iter__(self):
        return iter(self._tables)

    def __eq__(self, other):
        return isinstance(other, Bench) and self._tables == other._tables

    def keep(self, name, table):
        """Let the name have this table ([M2])."""
        return self.do(("keep", name, table))

    def drop(self, name):
        """Let the name be kept no more ([M2])."""
        return self.do(("drop", name))

    def exchange(self, name, one, other):
        """Let the letters of two cells change places ([M2])."""
        return self.do(("exchange", name, one, other))

    def put(self, name, cell, letter):
        """Put a cell with this letter in ahead of the cell ([M2])."""
        return self.do(("put", name, cell, letter))

    def take(self, name, cell):
        """Take the cell out ([M2])."""
        return self.do(("take", name, cell))

    def batch(self, edits):
        """Do several edits as one ([M2])."""
        return self.do(("batch", edits))

    def do(self, edit):
        """Do an edit that is told as it stands in the log; the new version is returned."""
        tables = edited(self._tables, edit)
        if len(self._edits) >= MAX_EDITS:
            raise TooManyEdits()
        self._undone = []
        return self._add(edit, tables)

    def bits(self, name, text):
        """The bits of the text, written from the first state of the name's table ([M3])."""
        table = self._table_for(name, text)
        return bit_count(table, len(table), text)

    def turn(self, name, text):
        """The turn of the text by the name's table ([M3])."""
        return self._turn_of(self._table_for(name, text), text)

    def cost(self, name, text):
        """The cost of the text by the name's table ([M3])."""
        table = self._table_for(name, text)
        if text == ():
            raise Unfit()
        return turn_cost(self._turn_of(table, text))

    def undo(self):
        """Take the last edit back ([M4])."""
        if len(self._edits) == 0:
            raise NothingToUndo()
        self._undone.append((self._edits.pop(), self._stages.pop()))
        self._tables = self._stages[-1]
        return len(self._edits)

    def redo(self):
        """Do the edit again that was taken back last ([M4])."""
        if len(self._undone) == 0:
            raise NothingToRedo()
        edit, tables = self._undone.pop()
        return self._add(edit, tables)

    def at(self, version):
        """The shelf when so many edits stood ([M4])."""
        if not is_within(version, 0, len(self._edits)):
            raise NoVersion(version)
        return tuple(self._stages[version].items())

    def copy(self):
        """A bench that is as this one, and goes its own way ([M4])."""
        other = Bench()
        other._tables = self._tables
        other._stages = list(self._stages)
        other._edits = list(self._edits)
        other._undone = list(self._undone)
        other._turns = {pair: self._turns[pair] for pair in self._turns}
        return other

    def attempt(self, work):
        """What work returns of this bench; if it raises a RingError all edits are as they were ([M4])."""
        stages, edits, undone = list(self._stages), list(self._edits), list(self._undone)
        try:
            return work(self)
        except RingError:
            self._stages, self._edits, self._undone = stages, edits, undone
            self._tables = stages[-1]
            raise

    def _add(self, edit, tables):
        """Let an edit stand that led to these tables; the version is returned."""
        self._edits.append(edit)
        self._stages.append(tables)
        self._tables = tables
        return len(self._edits)

    def _table_for(self, name, text):
        """The table of the name; text is a text of it."""
        table = table_named(self._tables, name)
        if text_error(table, text) is not None:
            raise Unfit()
        return table

    def _turn_of(self, table, text):
        """The turn of the text, made once for a table."""
        if (table, text) not in self._turns:
            self._turns[(table, text)] = text_turn(table, text)
        return self._turns[(table, text)]
