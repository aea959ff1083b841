"""What several tests need: odd values, tables to go through, and comparisons that tell True from 1."""

import copy
import itertools
import random
import time

from unpassed.benches import Bench
from unpassed.errors import NoLetter, RingError, Unfit
from unpassed.shells import Shell


def bench_of(**tables):
    """A bench that keeps these tables, in this order."""
    bench = Bench()
    for name, table in tables.items():
        bench.keep(name, table)
    return bench


# Any value may be handed in for some arguments ([A3]); none of these is an integer or a tuple.
ODD_VALUES = (
    None, True, False, "", "0", "5", "None", "a b", "\n", [], [0], [5], [0, 1], [[]], {}, {0: 1}, {"a": [0]},
    Unfit(), NoLetter(0), [None, (1,), {"b": (True,)}], "z" * 20000, Bench(), bench_of(a=(0, 1)), Shell(),
)

# Tuples that hold what is no letter.
ODD_TUPLES = (
    (None,), (True,), (False,), ("a",), ("",), ((),), ((0,),), ([],), ({},), (-1,), (26,), (10 ** 399,), (-10 ** 399,),
    (0, True), (0, (0,)), (0, [0], 0), (0, "y"), (0, None), (0, {0: 0}), (NoLetter(0),), ((((((0,),),),),),),
)

FAR_INTEGERS = (-1, -2, -64, 128, 129, 10 ** 30, -10 ** 30, 10 ** 399, -10 ** 399)

TURNS = (
    (0,), (5,), (-5,), (10 ** 30,), (0, 1), (0, 2), (3, 3), (-1, 1), (2, 3, 4, 4), (9, 9, 9, 9), (9, 9, 13, 13),
    (-3, -3, -2, -1), (1, 2, 3), (0, 1, 2), (-4, -4, -4, 0), (-7, -6, -6, -3), (10 ** 20, 10 ** 20, 10 ** 20 + 3),
    tuple(range(64)), tuple(range(1, 65)), (-1,) * 63 + (63,), (640,) * 64,
)


def kind_of(value):
    """value with the kind of each part beside it, so that True and 1 differ."""
    if isinstance(value, (tuple, list)):
        return type(value).__name__, [kind_of(item) for item in value]
    if isinstance(value, dict):
        return "dict", [(kind_of(key), kind_of(item)) for key, item in value.items()]
    if hasattr(value, "__dict__"):
        return type(value).__name__, kind_of(vars(value))
    return type(value).__name__, value


def same(one, other):
    """Whether two values are equal in all parts, kinds too."""
    return kind_of(one) == kind_of(other)


def every_table(cells, letters):
    """All tables of so many cells of these letters."""
    return list(itertools.product(letters, repeat=cells))


def small_tables():
    """All tables of one cell to five of up to three letters."""
    return [table for cells in range(1, 6) for table in every_table(cells, (0, 1, 2)[:max(2, 5 - cells)])]


def drawn_tables(seed, many, cells):
    """So many drawn tables of the numbers of cells, of few letters and of many."""
    draw = random.Random(seed)
    tables = []
    for turn in range(many):
        size = cells[turn % len(cells)]
        most = draw.choice((1, 2, 3, 5, 26))
        letters = draw.sample(range(26), most)
        tables.append(tuple(draw.choice(letters) for _ in range(size)))
    return tables


def shaped_tables():
    """Tables of a shape: one letter alone, one cell a letter, blocks, even spreads, lone cells; up to 64 cells."""
    return [
        (0,), (25,), (7, 7), (9, 9, 9), (3,) * 63, (3,) * 64,
        (0, 1), (1, 0), tuple(range(5)), tuple(range(26)), tuple(range(25, -1, -1)),
        (0, 0, 0, 1), (1, 0, 0, 0), (0, 1, 0, 0), (0, 0, 1, 1), (0, 1, 0, 1), (0, 1) * 6, (0, 0, 1, 1, 2, 2, 2),
        (0,) * 32 + (1,) * 32, (0, 1) * 32, (0,) * 63 + (1,), (1,) + (0,) * 63, (4, 2, 9, 25) * 16,
        (0,) * 62 + (1,), (0,) * 33 + (1,) * 31, (0, 1, 2) * 21, tuple(range(26)) * 2 + tuple(range(12)),
        (0,) * 7 + (1,) * 5, (0, 1, 1, 0, 2, 0, 1, 0, 2, 0, 0, 5),
    ]


def drawn_texts(seed, table, lengths):
    """A drawn text of table for each length."""
    draw = random.Random(seed)
    return [tuple(draw.choice(table) for _ in range(length)) for length in lengths]


def small_turns(many):
    """All turns of a ring of many places whose first item is from -2 to many."""
    return [(first, *rest) for first in range(-2, many + 1)
            for rest in itertools.combinations_with_replacement(range(first, first + many + 1), many - 1)]


def outcome(function, *given, **named):
    """What a call returns, or the RingError that it raises, as one value."""
    try:
        return "returned", function(*given, **named)
    except RingError as error:
        return "raised", type(error).__name__, dict(vars(error))


# Far more than any call takes, so that a busy machine does not fail a test.
GOOD_TIME = 20


class Checks:
    """Assertions for unittest.TestCase classes."""

    def check_same(self, one, other, told=""):
        self.assertTrue(same(one, other), f"{told}: {one!r} is not {other!r}"[:2000])

    def check_raises(self, kind, kept, function, *given, **named):
        """The call raises just this class of error with just these attributes, and changes nothing."""
        before = copy.deepcopy((given, named))
        with self.assertRaises(RingError, msg=f"{function.__name__}{given!r}"[:2000]) as caught:
            function(*given, **named)
        self.assertIs(type(caught.exception), kind, f"{function.__name__}{given!r}"[:2000])
        self.check_same(vars(caught.exception), kept, f"{function.__name__}{given!r}"[:500])
        self.check_same((given, named), before)
        for name, value in kept.items():
            if isinstance(value, (list, dict)):
                self.assertTrue(any(getattr(caught.exception, name) is item for item in self.parts_of(given, named)))

    def parts_of(self, given, named):
        parts = [*given, *named.values()]
        return parts + [item for part in parts if isinstance(part, tuple) for item in part]

    def check_call(self, wanted, function, **named):
        """By place and by the told names the call returns what is wanted, twice, and changes nothing."""
        before = copy.deepcopy(named)
        for _ in range(2):
            self.check_same(function(**named), wanted, function.__name__)
            self.check_same(function(*named.values()), wanted, function.__name__)
        self.check_same(named, before)

    def check_quick(self, function, *given):
        """What the call returns, which it does in good time."""
        begun = time.process_time()
        value = function(*given)
        self.assertLess(time.process_time() - begun, GOOD_TIME, function.__name__)
        return value
