"""Logs: edits as lines of text, and back, and the bench that they make."""

from unpassed.benches import Bench
from unpassed.bounds import BATCH, MAX_CELLS
from unpassed.decimals import decimal_behind
from unpassed.edits import FORMS, is_name
from unpassed.errors import BadText, Rejected, RingError
from unpassed.kinds import is_letter
from unpassed.tabletexts import letters_behind, letters_text, read_table, table_text


def log_text(edits):
    """The lines of the edits, each with a line feed behind it ([M5])."""
    return "".join([edit_line(edit) + "\n" for edit in edits])


def read_log(value):
    """The edits of which value is the text ([M5])."""
    if not isinstance(value, str):
        raise BadText()
    lines = value.split("\n")
    # Behind the last line feed there is nothing more.
    if lines[-1] != "":
        raise BadText()
    return tuple([edit_behind(line) for line in lines[:-1]])


def bench_behind(edits):
    """A bench by which the edits were done ([M5])."""
    bench = Bench()
    for place, edit in enumerate(edits):
        try:
            bench.do(edit)
        except RingError:
            raise Rejected(place)
    return bench


def edit_line(edit):
    """The line of an edit."""
    if edit[0] != "batch":
        return part_line(edit)
    parts = [part_line(part) for part in edit[1]]
    return "batch " + "; ".join(parts) if len(parts) > 0 else "batch"


def part_line(edit):
    """The line of an edit other than a batch."""
    word, *arguments = edit
    return " ".join([word] + [argument_text(form, argument) for form, argument in zip(FORMS[word], arguments)])


def argument_text(form, argument):
    """The text of an argument of this form."""
    if form == "table":
        return table_text(argument)
    if form == "letter":
        return letters_text((argument,))
    return str(argument)


def edit_behind(line):
    """The edit of which line is the line."""
    if line == "batch":
        return "batch", ()
    word, _, rest = line.partition(" ")
    if word != "batch":
        return part_behind(line)
    parts = rest.split("; ")
    if len(parts) > BATCH:
        raise BadText()
    return "batch", tuple([part_behind(part) for part in parts])


def part_behind(line):
    """The edit other than a batch of which line is the line."""
    word, *texts = line.split(" ")
    if word not in FORMS or len(texts) != len(FORMS[word]):
        raise BadText()
    return (word,) + tuple([argument_behind(form, text) for form, text in zip(FORMS[word], texts)])


def argument_behind(form, text):
    """The argument of this form of which text is the text."""
    if form == "name":
        return name_behind(text)
    if form == "table":
        return read_table(text)
    if form == "letter":
        return letter_behind(text)
    number = decimal_behind(text, 0, MAX_CELLS)
    if number is None:
        raise BadText()
    return number


def name_behind(text):
    """The name that text is."""
    if not is_name(text):
        raise BadText()
    return text


def letter_behind(text):
    """The letter of which text is the sign."""
    letters = letters_behind(text)
    if len(letters) != 1 or not is_letter(letters[0]):
        raise BadText()
    return letters[0]
