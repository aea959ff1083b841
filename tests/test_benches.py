"""Benches: [M1] to [M4], and what [M7] tells of them."""

import copy
import random
import unittest

from tests.benchmodel import SlowBench
from tests.support import Checks, FAR_INTEGERS, ODD_TUPLES, ODD_VALUES, bench_of, kind_of, outcome, same
from unpassed import errors
from unpassed.benches import Bench
from unpassed.costs import cost
from unpassed.shells import Shell
from unpassed.tables import letters_of
from unpassed.turns import text_turn
from unpassed.writing import bit_count

ODD = ODD_VALUES + ODD_TUPLES
NO_NAMES = ODD + FAR_INTEGERS + ("", "none", "A", "a1", "abcdefghi", "a b", "a\n", " a", "a-", "none\n", "aB", ("a",), ["a"])
WORDS = {"keep": 2, "drop": 1, "exchange": 3, "put": 3, "take": 2}
NAMED = {"keep": "name table", "drop": "name", "exchange": "name one other", "put": "name cell letter",
         "take": "name cell", "batch": "edits", "bits": "name text", "turn": "name text", "cost": "name text",
         "at": "version", "attempt": "work", "undo": "", "redo": "", "copy": ""}


def state_of(bench):
    """All that a bench tells of itself, and what it has to redo."""
    other = bench.copy()
    redone = []
    while True:
        told = outcome(other.redo)
        redone.append((told, other.shelf))
        if told[0] == "raised":
            break
    return kind_of([bench.shelf, bench.version, bench.log, bench.made, len(bench), list(bench), redone])


class BenchChecks(Checks):
    def check_kept(self, bench, kind, kept, name, *given):
        """The method raises just this, by place and by the told names, and nothing is changed."""
        before = state_of(bench)
        self.check_raises(kind, kept, getattr(bench, name), *given)
        self.check_same(state_of(bench), before)
        self.check_raises(kind, kept, getattr(bench, name), **dict(zip(NAMED[name].split(), given)))
        self.check_same(state_of(bench), before)

    def check_raises(self, kind, kept, function, *given, **named):
        with self.assertRaises(errors.RingError, msg=f"{function}{given!r}"[:2000]) as caught:
            function(*given, **named)
        self.assertIs(type(caught.exception), kind, f"{function}{given!r}"[:2000])
        self.check_same(vars(caught.exception), kept, f"{function}{given!r}"[:500])


class LookTest(unittest.TestCase, BenchChecks):
    def test_new(self):
        bench = Bench()
        self.check_same([bench.shelf, bench.version, bench.log, bench.made, len(bench), list(bench)], [(), 0, (), 0, 0, []])

    def test_names_and_tables(self):
        bench = bench_of(ring=(0, 0, 1), a=(5,), zzzzzzzz=(25,) * 64, b=(0, 1))
        self.check_same(bench.shelf, (("a", (5,)), ("b", (0, 1)), ("ring", (0, 0, 1)), ("zzzzzzzz", (25,) * 64)))
        self.check_same((list(bench), len(bench), bench.version), (["a", "b", "ring", "zzzzzzzz"], 4, 4))
        self.check_same([name for name in bench], ["a", "b", "ring", "zzzzzzzz"])
        self.check_same([bench[name] for name in bench], [table for _, table in bench.shelf])
        for name in bench:
            self.check_same(name in bench, True)
            bench.keep(name, (1, 2))
            self.check_same(bench[name], (1, 2))
        self.check_same(list(bench), ["a", "b", "ring", "zzzzzzzz"])

    def test_in_and_items_of_any_values(self):
        for bench in (Bench(), bench_of(ring=(0, 0, 1), no=(5,))):
            for value in NO_NAMES + ("rin", "nones", "a", "zzzzzzzz", (0, 0, 1), (("ring", (0, 0, 1)),)):
                self.check_same(value in bench, False)
                self.check_raises(errors.NoName, {"given": value}, lambda key: bench[key], value)

    def test_they_can_only_be_read(self):
        bench = bench_of(ring=(0, 0, 1))
        before = state_of(bench)
        for name in ("shelf", "version", "log", "made"):
            with self.assertRaises(AttributeError):
                setattr(bench, name, 3)
            with self.assertRaises(AttributeError):
                delattr(bench, name)
        self.check_same(state_of(bench), before)

    def test_equal(self):
        one, other = bench_of(a=(0, 1), b=(2,)), bench_of(b=(2,), a=(0, 1))
        self.assertTrue(one == other and not one != other)
        other.keep("c", (3,))
        self.assertTrue(one != other and not one == other)
        other.drop("c")
        other.turn("a", (0,))
        self.assertTrue(one == other and one.version != other.version)
        other.exchange("a", 0, 1)
        self.assertTrue(one != other)
        self.assertTrue(Bench() == Bench() and Bench() != one)

    def test_equal_to_nothing_else(self):
        class Likewise:
            shelf, version, log, made = (), 0, (), 0

        for bench in (Bench(), bench_of(a=(0, 1))):
            others = (*ODD, *FAR_INTEGERS, (), bench.shelf, dict(bench.shelf), list(bench), Likewise(), Shell(), 0, True)
            for value in [value for value in others if not isinstance(value, Bench)]:
                self.check_same([bench == value, value == bench, bench != value, value != bench], [False, False, True, True])

    def test_what_was_returned_does_not_change(self):
        bench = bench_of(a=(0, 1))
        told = [bench.shelf, bench.log, bench.at(1), bench["a"], bench.turn("a", (0,)), bench.version, bench.made]
        kept = copy.deepcopy(told)
        bench.put("a", 0, 3)
        bench.batch((("keep", "b", (5,)), ("drop", "a")))
        bench.undo()
        bench.turn("a", (3,))
        self.check_same(told, kept)


class EditsTest(unittest.TestCase, BenchChecks):
    def test_each_is_logged(self):
        bench = Bench()
        edits = (("keep", "ring", (0, 1, 2)), ("exchange", "ring", 0, 2), ("put", "ring", 3, 7), ("take", "ring", 1),
                 ("batch", (("drop", "ring"), ("keep", "b", (5,)))), ("batch", ()), ("drop", "b"))
        for version, edit in enumerate(edits):
            self.check_same(getattr(bench, edit[0])(*edit[1:]), version + 1)
            self.check_same((bench.log, bench.version), (edits[:version + 1], version + 1))
        tables = [dict(bench.at(version)).get("ring") for version in range(8)]
        self.check_same(tables, [None, (0, 1, 2), (2, 1, 0), (2, 1, 0, 7), (2, 0, 7), None, None, None])

    def test_by_name(self):
        bench = Bench()
        self.check_same(bench.keep(table=(0, 1, 2), name="ring"), 1)
        self.check_same(bench.exchange(other=0, one=2, name="ring"), 2)
        self.check_same(bench.put(letter=7, cell=0, name="ring"), 3)
        self.check_same(bench.take(cell=3, name="ring"), 4)
        self.check_same(bench["ring"], (7, 2, 1))
        told = [bench.bits(text=(2,), name="ring"), bench.turn(text=(2,), name="ring"), bench.cost(text=(2,), name="ring")]
        self.check_same(told, [1, (4, 7, 7), (2, 1)])
        self.check_same(bench.batch(edits=(("drop", "ring"),)), 5)
        self.check_same(bench.at(version=1), (("ring", (0, 1, 2)),))
        self.check_same(bench.attempt(work=len), 0)
        self.check_same(bench.keep("b", (1,)), 6)
        self.check_same(bench.drop(name="b"), 7)

    def test_also_edits_that_change_nothing(self):
        bench = bench_of(a=(0, 1, 0))
        for name, given in (("keep", ("a", (0, 1, 0))), ("exchange", ("a", 1, 1)), ("exchange", ("a", 0, 2)), ("batch", ((),)),
                            ("batch", ((("keep", "b", (1,)), ("drop", "b")),))):
            version = bench.version
            self.check_same(getattr(bench, name)(*given), version + 1)
            self.check_same((bench.shelf, bench.log[-1]), ((("a", (0, 1, 0)),), (name, *given)))

    def test_put_and_take(self):
        bench = bench_of(a=(0, 1, 2))
        for cell in range(4):
            table = bench["a"]
            bench.put("a", cell, 25)
            self.check_same(bench["a"], table[:cell] + (25,) + table[cell:])
            bench.take("a", cell)
            self.check_same(bench["a"], table)

    def test_exchange_twice(self):
        for one in range(4):
            for other in range(4):
                bench = bench_of(a=(0, 1, 2, 3))
                bench.exchange("a", one, other)
                cells = [0, 1, 2, 3]
                cells[one], cells[other] = other, one
                self.check_same(bench["a"], tuple(cells))
                bench.exchange("a", one, other)
                self.check_same(bench["a"], (0, 1, 2, 3))

    def test_keep_raises(self):
        bench = bench_of(a=(0,))
        for value in NO_NAMES:
            for table in ((0,), (), None, value):
                self.check_kept(bench, errors.Unfit, {}, "keep", value, table)
        for value in ODD_VALUES + FAR_INTEGERS + ((), (0,) * 65):
            self.check_kept(bench, errors.BadTable, {"error": "form"}, "keep", "b", value)
            self.check_kept(bench, errors.BadTable, {"error": "form"}, "keep", "a", value)
        for value in ODD_TUPLES + ((0, 26), (0, 0, True)):
            place = [type(cell) is int and 0 <= cell <= 25 for cell in value].index(False)
            self.check_kept(bench, errors.BadTable, {"error": ("cell", place)}, "keep", "b", value)

    def test_keep_as_many_names_as_may_be(self):
        bench = bench_of(a=(0,), b=(0,), c=(0,), d=(0,), e=(0,))
        bench.keep("f", (0,) * 64)
        for name in ("g", "aa", "zzzzzzzz"):
            self.check_kept(bench, errors.TooMany, {"limit": 6}, "keep", name, (0, 1))
            self.check_kept(bench, errors.BadTable, {"error": "form"}, "keep", name, ())
        self.check_kept(bench, errors.Unfit, {}, "keep", "none", (0,))
        self.check_same(bench.keep("f", (1,)), 7)
        bench.drop("c")
        self.check_same(bench.keep("g", (1,)), 9)
        self.check_same(list(bench), ["a", "b", "d", "e", "f", "g"])

    def test_no_name(self):
        bench = bench_of(ring=(0, 1))
        for value in NO_NAMES + ("a", "rings"):
            for name, more in (("drop", ()), ("exchange", (9, None)), ("exchange", (0, 1)), ("put", (0, 1)), ("put", (9, 99)),
                               ("take", (0,)), ("take", (9,)), ("bits", (None,)), ("bits", ((),)), ("turn", (9,)), ("cost", ((),))):
                self.check_kept(bench, errors.NoName, {"given": value}, name, value, *more)

    def test_no_cells(self):
        bench = bench_of(a=(0, 1, 2), b=(5,))
        for value in ODD + FAR_INTEGERS + (3, 4, 64):
            self.check_kept(bench, errors.Unfit, {}, "exchange", "a", value, 0)
            self.check_kept(bench, errors.Unfit, {}, "exchange", "a", 0, value)
            self.check_kept(bench, errors.Unfit, {}, "take", "a", value)
            if value != 3:
                self.check_kept(bench, errors.Unfit, {}, "put", "a", value, None)
                self.check_kept(bench, errors.Unfit, {}, "put", "a", value, 1)
        for value in (0, 1, -1, None):
            self.check_kept(bench, errors.Unfit, {}, "take", "b", value)
        self.check_same(bench.exchange("b", 0, 0), 3)

    def test_put_raises(self):
        bench = bench_of(a=(0, 1), full=(0,) * 64)
        for value in ODD + FAR_INTEGERS + (26, -1):
            for name, cell in (("a", 0), ("a", 2), ("full", 0), ("full", 64)):
                self.check_kept(bench, errors.NoLetter, {"given": value}, "put", name, cell, value)
        for cell in (0, 30, 64):
            self.check_kept(bench, errors.TooMany, {"limit": 64}, "put", "full", cell, 25)
        self.check_kept(bench, errors.Unfit, {}, "put", "full", 65, 25)
        bench.take("full", 63)
        self.check_same(bench.put("full", 63, 25), 4)
        self.check_same(bench["full"], (0,) * 63 + (25,))


class BatchTest(unittest.TestCase, BenchChecks):
    def test_of_many(self):
        bench = Bench()
        edits = tuple([("keep", "a", (number,)) for number in range(12)])
        self.check_same((bench.batch(edits), bench.shelf, bench.log), (1, (("a", (11,)),), (("batch", edits),)))
        self.check_kept(bench, errors.BadBatch, {}, "batch", edits + edits[:1])
        self.check_same(bench.batch(()), 2)
        self.check_same(bench.undo(), 1)
        self.check_same((bench.undo(), bench.shelf), (0, ()))

    def test_no_batch(self):
        bench = bench_of(a=(0, 1))
        right = ("drop", "a")
        wrong = [value for value in ODD + FAR_INTEGERS]
        wrong += [(value,) for value in ODD + FAR_INTEGERS] + [(right, value) for value in ODD] + [[right], right, ("drop",)]
        wrong += [((value, "a"),) for value in NO_NAMES] + [(("batch", ()),), (("undo",),), (("redo",),), (("Drop", "a"),)]
        for word, many in WORDS.items():
            wrong += [((word,) + ("a",) * number,) for number in range(6) if number != many]
            wrong += [([word] + ["a"] * many,), (right, (word,))]
        wrong += [(right,) * 13, (("keep", "a", ()), ("drop",)), (("drop", "no"), None)]
        for value in wrong:
            self.check_kept(bench, errors.BadBatch, {}, "batch", value)

    def test_rejected(self):
        bench = bench_of(a=(0, 1), b=(5,))
        for edits, place in (
            ((("drop", "c"),), 0), ((("drop", "a"), ("drop", "a")), 1), ((("drop", "a"), ("take", "b", 0), ("drop", "c")), 1),
            ((("keep", "c", (1,)), ("exchange", "c", 0, 1)), 1), ((("put", "a", 3, 0),), 0), ((("put", "a", 2, 26),), 0),
            ((("keep", "none", (0,)),), 0), ((("keep", "c", ()),), 0), ((("drop", "a"),) + (("keep", "c", (0,)),) * 10 + (("drop", "a"),), 11),
            (tuple([("keep", name, (0,)) for name in "cdefg"]), 4), ((("drop", None),), 0), ((("drop", ["a"]),), 0),
            (tuple([("drop", "b"), ("keep", "f", (0,) * 64), ("put", "f", 64, 0)]), 2), ((("put", "a", True, 0),), 0),
        ):
            self.check_kept(bench, errors.Rejected, {"index": place}, "batch", edits)
        for value in NO_NAMES:
            self.check_kept(bench, errors.Rejected, {"index": 1}, "batch", (("take", "a", 0), ("drop", value)))

    def test_parts_see_what_those_ahead_did(self):
        bench = bench_of(a=(0, 1, 2))
        bench.batch((("put", "a", 3, 3), ("exchange", "a", 0, 3), ("take", "a", 1), ("keep", "b", (9,)), ("put", "b", 0, 8)))
        self.check_same(bench.shelf, (("a", (3, 2, 0)), ("b", (8, 9))))
        bench.batch(tuple([("keep", name, (0,)) for name in "cdef"]))
        bench.batch((("drop", "c"), ("keep", "g", (0,)), ("drop", "g"), ("keep", "h", (1,))))
        self.check_same(list(bench), ["a", "b", "d", "e", "f", "h"])


class TooManyEditsTest(unittest.TestCase, BenchChecks):
    def full(self):
        bench = bench_of(a=(0, 1))
        while bench.version < 39:
            bench.batch((("exchange", "a", 0, 1),) * 12)
        return bench

    def test_forty_edits(self):
        bench = self.full()
        self.check_same((bench.keep("b", (0,)), len(bench.log)), (40, 40))
        for name, given in (("keep", ("c", (0,))), ("drop", ("a",)), ("exchange", ("a", 0, 0)), ("put", ("a", 0, 0)),
                            ("take", ("a", 0)), ("batch", ((),)), ("batch", ((("drop", "a"),),))):
            self.check_kept(bench, errors.TooManyEdits, {}, name, *given)

    def test_behind_all_others(self):
        bench = self.full()
        bench.drop("a")
        for name, given, kind, kept in (
            ("keep", ("none", (0,)), errors.Unfit, {}), ("keep", ("a", ()), errors.BadTable, {"error": "form"}),
            ("drop", ("a",), errors.NoName, {"given": "a"}), ("batch", (None,), errors.BadBatch, {}),
            ("batch", ((("drop", "a"),),), errors.Rejected, {"index": 0}),
        ):
            self.check_kept(bench, kind, kept, name, *given)
        self.check_kept(bench, errors.TooManyEdits, {}, "keep", "a", (0,))

    def test_undo_makes_room(self):
        bench = self.full()
        bench.drop("a")
        self.check_same([bench.undo(), bench.undo(), bench.redo(), bench.redo()], [39, 38, 39, 40])
        bench.undo()
        self.check_same(bench.keep("z", (3,)), 40)
        self.check_raises(errors.TooManyEdits, {}, bench.keep, "z", (4,))
        self.check_same([bench.undo() for _ in range(40)], list(range(39, -1, -1)))
        self.check_same([bench.redo() for _ in range(40)], list(range(1, 41)))
        self.check_same(bench.at(40), bench.shelf)


class AnswersTest(unittest.TestCase, BenchChecks):
    TABLES = ((0, 0, 1), (0, 1, 0), (9,), (0, 1, 2, 3, 4), (0,) * 63 + (1,))

    def test_as_of_tables(self):
        draw = random.Random(261)
        for table in self.TABLES:
            bench = bench_of(a=table)
            for length in (0, 1, 2, 5, 40):
                text = tuple([draw.choice(table) for _ in range(length)])
                self.check_same(bench.bits("a", text), bit_count(table, len(table), text))
                self.check_same(bench.turn("a", text), text_turn(table, text))
                if text:
                    self.check_same(bench.cost("a", text), cost(table, text))
                self.check_same(bench.turn("a", text), text_turn(table, text))

    def test_longest(self):
        bench = bench_of(a=(0,) * 63 + (1,), b=tuple(range(26)) * 2 + tuple(range(12)))
        for name in bench:
            text = (letters_of(bench[name]) * 2000)[:2000]
            for method in (bench.bits, bench.turn, bench.cost):
                self.check_quick(method, name, text)
            for method in ("bits", "turn", "cost"):
                self.check_kept(bench, errors.Unfit, {}, method, name, text + text[:1])

    def test_made(self):
        bench = bench_of(a=(0, 0, 1), b=(0, 1))
        steps = (
            ("bits", "a", (0,), 0), ("turn", "a", (0,), 1), ("turn", "a", (0,), 1), ("cost", "a", (0,), 1), ("cost", "a", (0, 1), 2),
            ("turn", "a", (0, 1), 2), ("turn", "b", (0,), 3), ("turn", "b", (), 4), ("turn", "a", (), 5), ("bits", "b", (1,), 5),
            ("cost", "b", (1, 0), 6),
        )
        for method, name, text, made in steps:
            getattr(bench, method)(name, text)
            self.check_same(bench.made, made)
        bench.keep("c", (0, 0, 1))
        bench.turn("c", (0,))
        self.check_same(bench.made, 6)
        bench.put("a", 3, 1)
        bench.turn("a", (0,))
        self.check_same(bench.made, 7)
        bench.undo()
        self.check_same((bench.turn("a", (0,)), bench.made), ((1, 3, 3), 7))
        bench.redo()
        self.check_same((bench.cost("a", (0,)), bench.made), ((1, 1), 7))
        bench.drop("b")
        self.check_same(bench.made, 7)
        bench.keep("d", (0, 1))
        self.check_same((bench.cost("d", (1, 0)), bench.made), ((2, 1), 7))

    def test_what_raises_makes_nothing(self):
        bench = bench_of(a=(0, 0, 1))
        for text in ODD_VALUES + ODD_TUPLES + FAR_INTEGERS + ((0, 2), (2,), (0,) * 2001):
            for method in ("bits", "turn", "cost"):
                self.check_kept(bench, errors.Unfit, {}, method, "a", text)
        self.check_kept(bench, errors.Unfit, {}, "cost", "a", ())
        self.check_same(bench.made, 0)
        self.check_same((bench.bits("a", ()), bench.turn("a", ()), bench.made), (0, (0, 1, 2), 1))
        self.check_kept(bench, errors.Unfit, {}, "cost", "a", ())


class UndoTest(unittest.TestCase, BenchChecks):
    def test_nothing(self):
        for bench in (Bench(), Bench().copy()):
            self.check_kept(bench, errors.NothingToUndo, {}, "undo")
            self.check_kept(bench, errors.NothingToRedo, {}, "redo")
        bench = bench_of(a=(0,))
        self.check_kept(bench, errors.NothingToRedo, {}, "redo")
        bench.undo()
        self.check_kept(bench, errors.NothingToUndo, {}, "undo")
        self.check_same((bench.redo(), bench["a"]), (1, (0,)))
        self.check_kept(bench, errors.NothingToRedo, {}, "redo")

    def test_a_new_edit_forgets(self):
        bench = bench_of(a=(0,), b=(1,), c=(2,))
        bench.undo()
        bench.undo()
        self.check_raises(errors.NoName, {"given": "c"}, bench.drop, "c")
        self.check_raises(errors.Unfit, {}, bench.take, "a", 0)
        self.check_raises(errors.Rejected, {"index": 0}, bench.batch, (("drop", "c"),))
        self.check_same((bench.redo(), list(bench)), (2, ["a", "b"]))
        bench.undo()
        bench.batch(())
        self.check_kept(bench, errors.NothingToRedo, {}, "redo")
        self.check_same((bench.log, bench.version), ((("keep", "a", (0,)), ("batch", ())), 2))

    def test_all_taken_back(self):
        bench = bench_of(a=(0, 1))
        before = (bench.shelf, bench.version, bench.log)
        bench.put("a", 0, 5)
        bench.batch((("drop", "a"), ("keep", "b", (1,))))
        bench.keep("a", (3,))
        self.check_same([bench.undo(), bench.undo(), bench.undo()], [3, 2, 1])
        self.check_same((bench.shelf, bench.version, bench.log), before)

    def test_at(self):
        bench = bench_of(a=(0,), b=(1,))
        bench.put("a", 1, 3)
        rows = [(), (("a", (0,)),), (("a", (0,)), ("b", (1,))), (("a", (0, 3)), ("b", (1,)))]
        self.check_same([bench.at(version) for version in range(4)], rows)
        for value in ODD + FAR_INTEGERS + (4, 40):
            self.check_kept(bench, errors.NoVersion, {"given": value}, "at", value)
        bench.undo()
        self.check_same([bench.at(version) for version in range(3)], rows[:3])
        self.check_kept(bench, errors.NoVersion, {"given": 3}, "at", 3)
        self.check_kept(Bench(), errors.NoVersion, {"given": False}, "at", False)
        self.check_same(Bench().at(0), ())

    def test_copy(self):
        bench = bench_of(a=(0, 1), b=(1,))
        bench.turn("a", (0,))
        bench.put("b", 0, 5)
        bench.undo()
        other = bench.copy()
        self.assertIs(type(other), Bench)
        self.assertTrue(other == bench)
        self.check_same(state_of(other), state_of(bench))
        before = state_of(bench)
        self.check_same((other.redo(), other["b"]), (3, (5, 1)))
        other.turn("a", (1,))
        other.drop("a")
        self.check_same((state_of(bench), other.made, bench.made), (before, 2, 1))
        before = state_of(other)
        bench.keep("c", (9,))
        bench.turn("c", (9,))
        bench.turn("c", (9, 9))
        self.check_same((state_of(other), list(other)), (before, ["b"]))


class AttemptTest(unittest.TestCase, BenchChecks):
    def test_what_it_returns(self):
        bench = bench_of(a=(0, 1))
        for value in (None, 0, [1], {"a": ()}, "z"):
            self.assertIs(bench.attempt(lambda own, told=value: told), value)
        self.assertIs(bench.attempt(lambda own: own), bench)
        self.check_same(bench.attempt(lambda own: own.keep("b", (1,))), 2)
        self.check_same((bench.version, list(bench)), (2, ["a", "b"]))

    def test_errors_of_rings(self):
        bench = bench_of(a=(0, 1), b=(5,))
        bench.keep("c", (7,))
        bench.undo()
        bench.turn("a", (0,))

        def work(own):
            own.undo()
            own.turn("a", (1,))
            own.put("a", 0, 3)
            own.cost("a", (3,))
            own.keep("z", (1,))
            own.drop("nobody")

        before = state_of(bench)
        self.check_raises(errors.NoName, {"given": "nobody"}, bench.attempt, work)
        self.check_same(bench.made, 3)
        # All but made is as it was: shelf, version, log, and what can be done again.
        before[1][3] = kind_of(3)
        self.check_same(state_of(bench), before)
        self.check_same((bench.redo(), list(bench)), (3, ["a", "b", "c"]))
        bench.cost("a", (1,))
        self.check_same(bench.made, 3)

    def test_the_error_goes_on_as_it_is(self):
        class Own(errors.RingError):
            pass

        for error in (errors.Unfit(), errors.NoLetter([1]), errors.Endless(("round",)), errors.RingError("a"), Own()):
            bench = bench_of(a=(0,))

            def work(own, told=error):
                own.drop("a")
                raise told

            with self.assertRaises(errors.RingError) as caught:
                bench.attempt(work)
            self.assertIs(caught.exception, error)
            self.check_same((bench.log, bench.shelf), ((("keep", "a", (0,)),), (("a", (0,)),)))

    def test_any_other_error(self):
        for kind in (ValueError, KeyError, TypeError, RuntimeError, ZeroDivisionError, KeyboardInterrupt):
            bench = bench_of(a=(0,), b=(1,))

            def work(own, told=kind):
                own.drop("a")
                own.undo()
                own.undo()
                raise told()

            with self.assertRaises(kind) as caught:
                bench.attempt(work)
            self.assertIs(type(caught.exception), kind)
            self.check_same((bench.version, list(bench)), (1, ["a"]))
            self.check_same([bench.redo(), bench.redo(), list(bench)], [2, 3, ["b"]])

    def test_within_one_another(self):
        bench = bench_of(a=(0,))

        def inner(own):
            own.keep("c", (2,))
            own.drop("no")

        def outer(own):
            own.keep("b", (1,))
            self.check_raises(errors.NoName, {"given": "no"}, own.attempt, inner)
            self.check_same((list(own), own.version), (["a", "b"], 2))
            own.keep("d", (3,))
            return own.version

        self.check_same((bench.attempt(outer), list(bench)), (3, ["a", "b", "d"]))

        def whole(own):
            self.check_same(own.attempt(lambda same: same.keep("e", (4,))), 4)
            own.take("a", 0)

        self.check_raises(errors.Unfit, {}, bench.attempt, whole)
        self.check_same((list(bench), bench.version), (["a", "b", "d"], 3))

    def test_edits_behind_it(self):
        bench = bench_of(a=(0, 1))
        self.check_raises(errors.Unfit, {}, bench.attempt, lambda own: own.put("a", 0, 9) and own.take("a", 9))
        self.check_same((bench.put("a", 0, 4), bench["a"], bench.undo(), bench["a"]), (2, (4, 0, 1), 1, (0, 1)))
        self.check_same(bench.at(1), bench.shelf)


class ManyStepsTest(unittest.TestCase, BenchChecks):
    """Drawn calls, right ones and wrong ones, beside a bench that does all edits anew each time."""

    NAMES = ("a", "b", "cc", "zz", "none", "q", "r", "s", "A", None, ["a"], 5)
    TABLES = ((0,), (0, 1), (1, 0, 1), (2, 2), (), (26,), (True,), None, (3, 0, 0, 1), (0,) * 64)
    CELLS = (0, 1, 2, 3, -1, 64, True, None, "0", (0,))
    TEXTS = ((), (0,), (1,), (0, 1), (1, 1, 0), (2,), None, (True,), [0], (0,) * 9)

    def drawn_edit(self, draw):
        word = draw.choice(("keep", "keep", "drop", "exchange", "put", "put", "take"))
        name = draw.choice(self.NAMES[:4]) if draw.random() < 0.8 else draw.choice(self.NAMES)
        if word == "keep":
            return word, name, draw.choice(self.TABLES[:4]) if draw.random() < 0.8 else draw.choice(self.TABLES)
        cells = [draw.choice(self.CELLS[:3]) if draw.random() < 0.8 else draw.choice(self.CELLS) for _ in range(WORDS[word] - 1)]
        return (word, name, *cells)

    def drawn_batch(self, draw):
        edits = tuple([self.drawn_edit(draw) for _ in range(draw.choice((0, 1, 2, 3, 13)))])
        return ("batch", draw.choice((edits, edits, edits, list(edits), edits + (("batch", ()),), edits + (None,))))

    def step(self, draw, bench, slow):
        """One drawn call of both benches, each told as what comes of it."""
        roll = draw.random()
        if roll < 0.5:
            edit = self.drawn_edit(draw) if roll < 0.4 else self.drawn_batch(draw)
            return outcome(getattr(bench, edit[0]), *edit[1:]), outcome(slow.edit, *edit)
        if roll < 0.65:
            return outcome(bench.undo), outcome(slow.undo)
        if roll < 0.75:
            return outcome(bench.redo), outcome(slow.redo)
        if roll < 0.8:
            version = draw.choice((0, 1, 2, 5, 40, -1, True, None))
            return outcome(bench.at, version), outcome(slow.at, version)
        if roll < 0.85:
            edits = [self.drawn_edit(draw) for _ in range(3)]
            return self.attempted(bench, slow, edits)
        word, name, text = draw.choice(("bits", "turn", "cost")), draw.choice(self.NAMES[:5]), draw.choice(self.TEXTS)
        return outcome(getattr(bench, word), name, text), outcome(getattr(slow, word), name, text)

    def attempted(self, bench, slow, edits):
        def work(own):
            return [getattr(own, edit[0])(*edit[1:]) for edit in edits]

        kept = slow.copy()
        told = outcome(lambda: [slow.edit(*edit) for edit in edits])
        if told[0] == "raised":
            slow.edits, slow.undone = kept.edits, kept.undone
        return outcome(bench.attempt, work), told

    def check_alike(self, bench, slow):
        self.check_same([bench.shelf, bench.version, bench.log, bench.made],
                        [slow.shelf(), len(slow.edits), tuple(slow.edits), len(slow.pairs)])
        self.check_same([len(bench), list(bench)], [len(slow.shelf()), [name for name, _ in slow.shelf()]])

    def test_alike(self):
        draw = random.Random(262)
        for turn in range(120):
            bench, slow = Bench(), SlowBench()
            for step in range(draw.choice((20, 60, 120))):
                told, wanted = self.step(draw, bench, slow)
                self.check_same(told, wanted, (turn, step))
                self.check_alike(bench, slow)
                if draw.random() < 0.03:
                    kept, beside = bench, slow
                    bench, slow = bench.copy(), slow.copy()
                    self.step(draw, kept, beside)
                    self.check_alike(bench, slow)

    def test_answers_are_those_of_a_new_bench(self):
        draw = random.Random(263)
        for _ in range(40):
            bench, slow = Bench(), SlowBench()
            for _ in range(40):
                self.step(draw, bench, slow)
            other = bench_of(**dict(bench.shelf))
            self.assertTrue(other == bench)
            for name in bench:
                for text in self.TEXTS:
                    for method in ("bits", "turn", "cost"):
                        self.check_same(outcome(getattr(bench, method), name, text), outcome(getattr(other, method), name, text))


if __name__ == "__main__":
    unittest.main()
