"""Logs: [M5], and what [M7] tells of them."""

import random
import unittest

from tests.benchmodel import SlowBench, name_right
from tests.support import Checks, FAR_INTEGERS, ODD_TUPLES, ODD_VALUES, bench_of, outcome, same
from unpassed.benches import Bench
from unpassed.errors import BadText, Rejected, RingError
from unpassed.logs import bench_behind, log_text, read_log

SIGNS = "abcdefghijklmnopqrstuvwxyz"
LINES = {
    ("keep", "ring", (0, 0, 1)): "keep ring aab",
    ("keep", "a", (25,)): "keep a z",
    ("keep", "zzzzzzzz", (3,) * 64): "keep zzzzzzzz " + "d" * 64,
    ("drop", "x"): "drop x",
    ("drop", "keep"): "drop keep",
    ("exchange", "ring", 0, 63): "exchange ring 0 63",
    ("exchange", "batch", 10, 9): "exchange batch 10 9",
    ("put", "ring", 64, 0): "put ring 64 a",
    ("put", "a", 0, 25): "put a 0 z",
    ("take", "ring", 7): "take ring 7",
    ("batch", ()): "batch",
    ("batch", (("drop", "x"),)): "batch drop x",
    ("batch", (("drop", "ring"), ("keep", "two", (0, 1)))): "batch drop ring; keep two ab",
    ("batch", (("take", "a", 0),) * 12): "batch " + "; ".join(["take a 0"] * 12),
    ("batch", (("exchange", "a", 1, 2), ("put", "b", 3, 4))): "batch exchange a 1 2; put b 3 e",
}
WRONG = (
    "", " ", "keep", "keep ring", "keep ring ", "keep ring aab ", " keep ring aab", "keep  ring aab", "keep ring  aab",
    "keep ring aAb", "keep ring " + "a" * 65, "keep ring a1", "keep none a", "keep Ring a", "keep abcdefghi a", "keep  a",
    "Keep ring aab", "keep ring aab aab", "keep ring 0", "drop", "drop ", "drop none", "drop x y", "drop X", "drop 1", "drop x;",
    "exchange ring 0", "exchange ring 0 65", "exchange ring 00 1", "exchange ring 0 01", "exchange ring -1 0", "exchange ring +1 0",
    "exchange ring 1 2 3", "exchange ring 0 1 ", "exchange ring a b", "exchange none 0 1", "exchange ring 0  1", "exchange ring 1.0 0",
    "put ring 65 a", "put ring 0 A", "put ring 0 ab", "put ring 0 ", "put ring 0", "put ring a 0", "put ring 0 0", "put ring 0 -",
    "take x 07", "take x", "take x 65", "take x 100", "take x 1_0", "take x " + "9" * 5000, "take x 1 ", "take x\t1", "take x 1\r",
    "batch ", "batch  ", "batch;", "batch ;", "batch ; ", "batch drop x;", "batch drop x; ", "batch drop x ; drop y",
    "batch drop x;drop y", "batch drop x;  drop y", "batch drop x, drop y", "batch batch", "batch batch drop x", "batch undo",
    "batch drop x; batch", "batch " + "; ".join(["drop x"] * 13), "batch  drop x", "batch drop none", "Batch", "batch\n ",
    "undo", "redo", "names", "made", "table x", "bits x a", "none", "# keep", "keep ring aab; drop ring", "0", "None", "()",
)


def drawn_name(draw):
    return draw.choice(("a", "none", "ring", "zzzzzzzz", "b", "keep", "batch"))


def drawn_line(draw):
    """A drawn line that is nearly one of an edit, or is one."""
    line = draw.choice(list(LINES.values()))
    for _ in range(draw.choice((0, 1, 1, 2))):
        place = draw.randint(0, len(line))
        line = draw.choice((line[:place] + draw.choice("abz 019;-\n") + line[place:], line[:place] + line[place + 1:]))
    return line


def edits_of(value):
    """The edits of a text, told by making all lines of edits that the text may have; None if there are none."""
    if value and not value.endswith("\n"):
        return None
    edits = [line_edit(line) for line in value.split("\n")[:-1]]
    return None if None in edits else tuple(edits)


def line_edit(line):
    if line == "batch" or line.startswith("batch "):
        parts = [part_edit(part) for part in line[6:].split("; ")] if line != "batch" else []
        return None if None in parts or len(parts) > 12 else ("batch", tuple(parts))
    return part_edit(line)


def part_edit(line):
    words = line.split(" ")
    forms = {"keep": "nt", "drop": "n", "exchange": "nii", "put": "nil", "take": "ni"}.get(words[0])
    if forms is None or len(forms) != len(words) - 1:
        return None
    told = [argument(form, word) for form, word in zip(forms, words[1:])]
    return None if None in told else (words[0], *told)


def argument(form, word):
    if form == "n":
        return word if name_right(word) else None
    if form == "i":
        return {str(number): number for number in range(65)}.get(word)
    letters = [SIGNS.find(sign) for sign in word]
    if -1 in letters or not 1 <= len(letters) <= (64 if form == "t" else 1):
        return None
    return tuple(letters) if form == "t" else letters[0]


class LinesTest(unittest.TestCase, Checks):
    def test_there_and_back(self):
        for edit, line in LINES.items():
            self.check_call(line + "\n", log_text, edits=(edit,))
            self.check_call((edit,), read_log, value=line + "\n")

    def test_of_many(self):
        edits, lines = tuple(LINES), "".join([line + "\n" for line in LINES.values()])
        self.check_call(lines, log_text, edits=edits)
        self.check_call(edits, read_log, value=lines)
        for many in (0, 1, 2, 40):
            self.check_same(log_text(edits[:1] * many), "keep ring aab\n" * many)
            self.check_same(read_log("batch\n" * many), (("batch", ()),) * many)

    def test_logs_of_many_lines(self):
        lines = "".join([line + "\n" for line in LINES.values()]) * 3000
        self.check_same(self.check_quick(read_log, lines), tuple(LINES) * 3000)
        self.check_same(self.check_quick(log_text, tuple(LINES) * 3000), lines)
        self.check_same(self.check_quick(read_log, "drop x\n" * 2857), (("drop", "x"),) * 2857)

    def test_what_is_none(self):
        for line in WRONG:
            for value in (line + "\n", "drop x\n" + line + "\n", line + "\ndrop x\n", "batch\n" * 100 + line + "\n"):
                self.check_raises(BadText, {}, read_log, value)
        for line in LINES.values():
            for value in (line, line + "\n\n", "\n" + line + "\n", line + "\r\n", line + " \n", line + "\n" + line):
                self.check_raises(BadText, {}, read_log, value)
        self.check_raises(BadText, {}, read_log, value="undo")

    def test_any_values(self):
        for value in ODD_VALUES + ODD_TUPLES + FAR_INTEGERS + (tuple(LINES), ("keep ring aab\n",), ["drop x\n"]):
            if value != "":
                self.check_raises(BadText, {}, read_log, value)
        self.check_same(read_log(""), ())

    def test_drawn_lines(self):
        draw = random.Random(271)
        for _ in range(4000):
            value = "".join([drawn_line(draw) + draw.choice(("\n",) * 12 + ("",)) for _ in range(draw.choice((1, 1, 2, 3)))])
            wanted = edits_of(value)
            if wanted is None:
                self.check_raises(BadText, {}, read_log, value)
            else:
                self.check_same(read_log(value), wanted)
                self.check_same(log_text(wanted), value)

    def test_a_bench_need_not_have_done_them(self):
        for line in ("take no 64", "exchange x 64 64", "put x 64 z", "drop abcdefgh", "batch drop a; drop a"):
            self.check_same(len(read_log(line + "\n")), 1)


class BenchBehindTest(unittest.TestCase, Checks):
    def test_edits(self):
        edits = (("keep", "a", (0, 1)), ("put", "a", 2, 5), ("batch", (("keep", "b", (1,)), ("exchange", "a", 0, 2))), ("batch", ()))
        bench = bench_behind(edits)
        self.assertIs(type(bench), Bench)
        self.check_same((bench.log, bench.version, bench.made), (edits, 4, 0))
        self.check_same(bench.shelf, (("a", (5, 1, 0)), ("b", (1,))))
        self.check_same([bench.undo() for _ in range(4)], [3, 2, 1, 0])
        self.check_same(bench_behind(()).log, ())
        self.assertTrue(bench_behind(edits=edits[:2]) == bench_of(a=(0, 1, 5)))
        self.assertIsNot(bench_behind(edits), bench_behind(edits))

    def test_rejected(self):
        keep = ("keep", "x", (0,))
        for edits, place in (
            ((keep, ("take", "x", 0)), 1), ((("drop", "x"),), 0), ((keep, keep, ("put", "x", 2, 0), ("drop", "no")), 2),
            ((keep, ("batch", (("drop", "x"), ("drop", "x")))), 1), ((keep,) * 41, 40), ((keep,) * 60, 40),
            (tuple([("keep", name, (0,)) for name in "abcdefg"]), 6), ((("keep", "f", (0,) * 64), ("put", "f", 64, 0)), 1),
            ((keep, ("exchange", "x", 0, 1)), 1), ((("batch", (keep, ("take", "x", 64))), keep), 0), ((keep,) * 39 + (("drop", "y"),), 39),
        ):
            self.check_raises(Rejected, {"index": place}, bench_behind, edits)
        self.check_raises(Rejected, {"index": 1}, bench_behind, edits=(keep, ("drop", "y")))
        self.check_same(bench_behind((keep,) * 40).version, 40)

    def test_as_done_by_hand(self):
        draw = random.Random(272)
        lines = [line for line in LINES if line[0] != "batch"]
        for _ in range(300):
            edits = [("keep", "ring", (0, 1, 0)), ("keep", "a", (3, 4, 4))]
            edits += [draw.choice(lines) for _ in range(draw.choice((0, 1, 3, 45)))]
            slow, wanted = SlowBench(), None
            for place, edit in enumerate(edits):
                if outcome(slow.edit, *edit)[0] == "raised":
                    wanted = place
                    break
            if wanted is not None:
                self.check_raises(Rejected, {"index": wanted}, bench_behind, tuple(edits))
            else:
                self.check_same(bench_behind(tuple(edits)).shelf, slow.shelf())


class LogsOfBenchesTest(unittest.TestCase, Checks):
    def drawn_bench(self, draw):
        """A bench on which drawn edits were done, some of them taken back."""
        bench = bench_of(a=(0, 1, 2))
        for _ in range(60):
            name = draw.choice("abcdefgh")
            try:
                draw.choice((
                    lambda: bench.keep(name, tuple([draw.randrange(26) for _ in range(draw.choice((1, 3, 64)))])),
                    lambda: bench.drop(name), lambda: bench.exchange(name, 0, draw.randrange(64)), bench.undo, bench.redo,
                    lambda: bench.put(name, draw.randrange(4), draw.randrange(26)), lambda: bench.take(name, draw.randrange(3)),
                    lambda: bench.batch((("keep", name, (1, 2)), ("put", name, 2, 25), ("exchange", name, 1, 2))[:draw.randrange(4)]),
                ))()
            except RingError:
                pass
        return bench

    def test_of_drawn_benches(self):
        draw = random.Random(273)
        for _ in range(60):
            bench = self.drawn_bench(draw)
            text = log_text(bench.log)
            self.check_same(read_log(text), bench.log)
            other = bench_behind(read_log(text))
            self.assertTrue(other == bench)
            self.check_same((other.log, other.shelf), (bench.log, bench.shelf))
            self.assertTrue(bench_behind(bench.log) == bench)
            self.assertEqual(text.count("\n"), bench.version)
            self.assertTrue(same(edits_of(text), bench.log))

    def test_of_full_benches(self):
        names = ("a", "b", "cc", "ddd", "eeee", "zzzzzzzz")
        bench = bench_of(**{name: (25,) * 64 for name in names})
        while bench.version < 40:
            bench.batch((("exchange", "zzzzzzzz", 0, 63),) * 12)
        self.assertTrue(bench_behind(read_log(log_text(bench.log))) == bench)
        self.check_same(read_log(log_text(bench.log)), bench.log)


if __name__ == "__main__":
    unittest.main()
