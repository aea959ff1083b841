"""Shells: [M6]."""

import inspect
import random
import unittest

from tests.benchmodel import SlowBench, name_right
from tests.support import Checks, FAR_INTEGERS, ODD_TUPLES, ODD_VALUES, outcome
from tests.test_logs import LINES, SIGNS, WRONG, drawn_line, edits_of
from unpassed.shells import Shell

ANSWERS = ("undo", "redo", "names", "made", "table x", "bits x a")


def said(*lines):
    shell = Shell()
    return [shell.say(line) for line in lines]


class SlowShell:
    """What the document says of shells, told over a slow bench."""

    def __init__(self):
        self.bench = SlowBench()

    def say(self, line):
        if type(line) is not str:
            return "what"
        words = line.split(" ")
        if line in ("undo", "redo"):
            return self.told(getattr(self.bench, line), "version {}".format)
        if line == "names":
            return " ".join([name for name, _ in self.bench.shelf()]) or "none"
        if line == "made":
            return str(len(self.bench.pairs))
        if words[0] == "table" and len(words) == 2 and name_right(words[1]):
            return self.told(lambda: self.bench.table_for(words[1], ()), lambda table: "".join([SIGNS[letter] for letter in table]))
        if words[0] in ("bits", "turn", "cost") and len(words) == 3 and name_right(words[1]):
            text = self.text_of(words[2])
            if text is None:
                return "what"
            show = {"bits": str, "turn": lambda turn: " ".join(map(str, turn)), "cost": "{0[0]}/{0[1]}".format}[words[0]]
            return self.told(lambda: getattr(self.bench, words[0])(words[1], text), show)
        edits = edits_of(line + "\n")
        if edits is None or len(edits) != 1:
            return "what"
        return self.told(lambda: self.bench.edit(*edits[0]), "version {}".format)

    def text_of(self, word):
        if word == "-":
            return ()
        return tuple([SIGNS.index(sign) for sign in word]) if word and not set(word) - set(SIGNS) else None

    def told(self, function, show):
        told = outcome(function)
        return f"error {told[1]}" if told[0] == "raised" else show(told[1])


class LinesTest(unittest.TestCase, Checks):
    def test_new(self):
        self.check_same(said("names", "made", "undo", "redo", "table a", "bits a -", "turn a b", "cost a -"),
                        ["none", "0", "error NothingToUndo", "error NothingToRedo"] + ["error NoName"] * 4)

    def test_edits(self):
        lines = ("keep ring aab", "put ring 3 z", "exchange ring 0 3", "take ring 1", "batch drop ring; keep two ab", "batch",
                 "keep a abc", "drop two", "names", "table a", "undo", "names", "redo", "names", "undo", "undo", "undo", "undo",
                 "table ring")
        self.check_same(said(*lines), [f"version {number}" for number in range(1, 9)] + [
            "a", "abc", "version 7", "a two", "version 8", "a", "version 7", "version 6", "version 5", "version 4", "zba"])

    def test_answers(self):
        self.check_same(said("keep a aab", "bits a -", "turn a -", "cost a a", "turn a ab", "bits a ab", "cost a bb", "made"),
                        ["version 1", "0", "0 1 2", "1/2", "8 8 8", "2", "4/1", "4"])
        self.check_same(said("keep a z", "turn a z", "cost a zz", "bits a zzz", "table a"), ["version 1", "0", "0/1", "0", "z"])

    def test_errors(self):
        self.check_same(said("keep a ab", "take a 2", "exchange a 0 64", "put a 3 a", "drop b", "take a 0", "take a 0", "bits a c",
                             "cost a -", "turn b a", "batch drop a; drop a", "undo", "redo", "redo", "undo", "undo", "undo"),
                        ["version 1", "error Unfit", "error Unfit", "error Unfit", "error NoName", "version 2", "error Unfit",
                         "error Unfit", "error Unfit", "error NoName", "error Rejected", "version 1", "version 2",
                         "error NothingToRedo", "version 1", "version 0", "error NothingToUndo"])

    def test_as_many_as_may_be(self):
        shell = Shell()
        told = [shell.say(f"keep {name} " + "z" * 64) for name in "abcdefg"]
        self.check_same(told, [f"version {number}" for number in range(1, 7)] + ["error TooMany"])
        self.check_same([shell.say("put a 64 a"), shell.say("put a 65 a"), shell.say("names")], ["error TooMany", "what", "a b c d e f"])
        self.check_same([shell.say("batch") for _ in range(35)][-2:], ["version 40", "error TooManyEdits"])
        self.check_same([shell.say("drop a"), shell.say("undo"), shell.say("drop a")], ["error TooManyEdits", "version 39", "version 40"])

    def test_long_lines(self):
        shell = Shell()
        shell.say("keep a " + "a" * 63 + "b")
        for word in ("bits", "turn", "cost"):
            self.check_same(self.check_quick(shell.say, f"{word} a " + "ab" * 1000) != "error Unfit", True)
            self.check_same(self.check_quick(shell.say, f"{word} a " + "a" * 2001), "error Unfit")
            self.check_same(self.check_quick(shell.say, f"{word} a " + "a" * 19000), "error Unfit")
        self.check_same(shell.say("bits a " + "b" * 2000), "12000")
        self.check_same(shell.say("keep a " + "a" * 65), "what")

    def test_what(self):
        lines = [line for line in WRONG if line not in ANSWERS]
        lines += ["undo ", " undo", "undo\n", "Undo", "undo undo", "redo 1", "names ", "names a", "made 0", "made\n", "table", "table ",
                  "table none", "table A", "table abcdefghi", "table a b", "table a ", " table a", "table  a", "bits", "bits a", "bits a ",
                  "bits a A", "bits a a b", "bits none a", "bits a --", "bits a a-", "bits a -a", "bits a 1", "bits  a a", "turn a a\n",
                  "turn A -", "cost a", "cost abcdefghi -", "cost a - ", "Bits a a", "say a", "drop a\ndrop b", "drop a\n",
                  "keep a a\nundo", "\n", "batch\nbatch", "attempt", "copy", "at 0", "shelf", "version", "log"]
        shell = Shell()
        shell.say("keep a ab")
        for line in lines:
            self.check_same((line, shell.say(line)), (line, "what"))
        for value in ODD_VALUES + ODD_TUPLES + FAR_INTEGERS + (("undo",), ["names"], {"undo": 1}):
            self.check_same(shell.say(value), "what")
        self.check_same([shell.say("names"), shell.say("made"), shell.say("undo"), shell.say("undo")],
                        ["a", "0", "version 0", "error NothingToUndo"])

    def test_all_lines_of_edits(self):
        for edit, line in LINES.items():
            slow = SlowBench()
            told = outcome(slow.edit, *edit)
            self.check_same(said(line), [f"error {told[1]}" if told[0] == "raised" else "version 1"])

    def test_by_name_and_each_its_own(self):
        one, other = Shell(), Shell()
        self.check_same(one.say(line="keep a ab"), "version 1")
        self.check_same((one.say("names"), other.say("names")), ("a", "none"))
        self.check_same(list(inspect.signature(vars(Shell)["say"]).parameters), ["self", "line"])


class ManyLinesTest(unittest.TestCase, Checks):
    def test_alike(self):
        draw = random.Random(281)
        names = ("a", "b", "ring", "none", "A")
        for _ in range(60):
            shell, slow = Shell(), SlowShell()
            for _ in range(80):
                name = draw.choice(names[:3]) if draw.random() < 0.9 else draw.choice(names)
                line = draw.choice((
                    "undo", "redo", "names", "made", f"table {name}", f"bits {name} {draw.choice(('a', 'ab', '-', 'bba', 'c', '', 'B'))}",
                    f"turn {name} {draw.choice(('a', 'ab', '-', 'bba', 'c'))}", f"cost {name} {draw.choice(('a', 'ab', '-', 'bb'))}",
                    f"keep {name} {draw.choice(('a', 'ab', 'aab', 'abab', 'ba'))}", f"keep {name} abb", f"put {name} {draw.randrange(4)} b",
                    f"exchange {name} 0 {draw.randrange(3)}", f"take {name} {draw.randrange(3)}", f"drop {name}", drawn_line(draw),
                    f"batch put {name} 0 a; exchange {name} 0 {draw.randrange(3)}",
                ))
                self.check_same((line, shell.say(line)), (line, slow.say(line)))


if __name__ == "__main__":
    unittest.main()
