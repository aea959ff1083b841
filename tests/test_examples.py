"""The examples of the document, as they stand there; each file continues with the names that the ones ahead set."""

import ast
import os
import unittest

from tests.support import same
from unpassed import errors

FOLDER = os.path.join(os.path.dirname(os.path.abspath(__file__)), "examples")


def examples_in(text):
    """The pairs of the lines that are run and of the line that tells what comes, None where nothing is told."""
    pairs = []
    for line in text.splitlines():
        if line.startswith("    >>> "):
            pairs.append([line[8:], None])
        elif line.strip():
            pairs[-1][1] = line.strip()
    return pairs


def run_line(line, names):
    """The value of an expression, None of a statement."""
    if isinstance(ast.parse(line).body[0], ast.Expr):
        return eval(line, names)
    exec(line, names)
    return None


def error_told(told):
    """The error of a line like "raises NoLetter(2)"."""
    return eval(told.removeprefix("raises "), dict(vars(errors)))


class ExamplesTest(unittest.TestCase):
    def check_example(self, line, told, names):
        if told is None:
            run_line(line, names)
        elif told.startswith("raises "):
            wanted = error_told(told)
            with self.assertRaises(errors.RingError, msg=line) as caught:
                run_line(line, names)
            self.assertIs(type(caught.exception), type(wanted), line)
            self.assertTrue(same(vars(caught.exception), vars(wanted)), line)
        else:
            value = run_line(line, names)
            self.assertTrue(same(value, ast.literal_eval(told)), f"{line}: {value!r}")

    def test_examples(self):
        names = {}
        many = 0
        for name in sorted(os.listdir(FOLDER)):
            with open(os.path.join(FOLDER, name), encoding="utf-8") as file:
                for line, told in examples_in(file.read()):
                    self.check_example(line, told, names)
                    many += told is not None
        self.assertGreaterEqual(many, 13)


if __name__ == "__main__":
    unittest.main()
