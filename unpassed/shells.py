"""Shells: a bench to which one speaks by lines."""

from unpassed.benches import Bench
from unpassed.errors import BadText, RingError
from unpassed.kinds import is_letter
from unpassed.logs import name_behind, read_log
from unpassed.tabletexts import letters_behind, table_text


class Shell:
    """A bench of its own, and what it answers to lines ([M6])."""

    def __init__(self):
        self._bench = Bench()

    def say(self, line):
        """The answer to a line, "what" to all else."""
        if not isinstance(line, str):
            return "what"
        try:
            return self._answer(line)
        except BadText:
            # No edit of a bench and nothing that it tells raises this one, but reading the line does.
            return "what"
        except RingError as error:
            return f"error {type(error).__name__}"

    def _answer(self, line):
        """The answer to a line; BadText is raised if it is none."""
        if line == "undo":
            return f"version {self._bench.undo()}"
        if line == "redo":
            return f"version {self._bench.redo()}"
        if line == "names":
            return " ".join(list(self._bench)) if len(self._bench) > 0 else "none"
        if line == "made":
            return str(self._bench.made)
        word, *texts = line.split(" ")
        if word == "table" and len(texts) == 1:
            return table_text(self._bench[name_behind(texts[0])])
        if word in ("bits", "turn", "cost") and len(texts) == 2:
            return self._told(word, name_behind(texts[0]), text_behind(texts[1]))
        edits = read_log(line + "\n")
        if len(edits) != 1:
            raise BadText()
        return f"version {self._bench.do(edits[0])}"

    def _told(self, word, name, text):
        """The answer to bits, turn or cost."""
        if word == "bits":
            return str(self._bench.bits(name, text))
        if word == "turn":
            return " ".join([str(height) for height in self._bench.turn(name, text)])
        above, below = self._bench.cost(name, text)
        return f"{above}/{below}"


def text_behind(signs):
    """The text of which signs are the signs of one or more letters, or "-" for ()."""
    if signs == "-":
        return ()
    letters = letters_behind(signs)
    if len(letters) == 0 or not all([is_letter(letter) for letter in letters]):
        raise BadText()
    return letters
