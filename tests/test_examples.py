"""The examples of the document, as they stand there, and those of README.md.

The files of the document's examples go on, in their order, with the names that the ones ahead set.
"""

import ast
import os
import unittest

from tests.support import same
from unpassed import errors

TESTS = os.path.dirname(os.path.abspath(__file__))
FOLDER = os.path.join(TESTS, "examples")
README = os.path.join(os.path.dirname(TESTS), "README.md")


def examples_in(text):
    """The pairs of the lines that are run and of the line that tells what comes, None where nothing is told."""
    pairs = []
    ahead = ""
    for line in text.splitlines():
        if line.startswith("    >>> "):
            pairs.append([line[8:], None])
        elif line.strip() and ahead.startswith("    >>> "):
            pairs[-1][1] = line.strip()
        ahead = line
    return pairs


def run_line(line, names):
    """The value of an expression, None of a statement."""
    if isinstance(ast.parse(line).body[0], ast.Expr):
        return eval(line, names)
    exec(line, names)
    return None


def error_told(told):
    """The error of a line like "raises NoLetter(2)"."""
    return eval(told.removeprefix("raises "), dict(vars(errors)))


class ExamplesTest(unittest.TestCase):
    def check_example(self, line, told, names):
        if told is None:
            run_line(line, names)
        elif told.startswith("raises "):
            wanted = error_told(told)
            with self.assertRaises(errors.RingError, msg=line) as caught:
                run_line(line, names)
            self.assertIs(type(caught.exception), type(wanted), line)
            self.assertTrue(same(vars(caught.exception), vars(wanted)), line)
        else:
            value = run_line(line, names)
            self.assertTrue(same(value, ast.literal_eval(told)), f"{line}: {value!r}")

    def check_file(self, path, names):
        with open(path, encoding="utf-8") as file:
            pairs = examples_in(file.read())
        self.assertTrue([told for _, told in pairs if told is not None], path)
        for line, told in pairs:
            self.check_example(line, told, names)

    def test_examples(self):
        names = {}
        self.assertEqual(sorted(os.listdir(FOLDER)), [part + ".txt" for part in "ABCDEFGHIJKLM"])
        for name in sorted(os.listdir(FOLDER)):
            self.check_file(os.path.join(FOLDER, name), names)

    def test_readme(self):
        self.check_file(README, {})


if __name__ == "__main__":
    unittest.main()
