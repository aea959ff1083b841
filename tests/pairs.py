"""Pairs of tables for the tests of what one table gains over another one ([G])."""

from tests.support import outcome, small_tables
from unpassed.errors import TooMany, Unfit


def beside(tables):
    """Pairs of the tables that have the same letters, each with itself and with the ones behind it in a few steps."""
    told = []
    for at, one in enumerate(tables):
        rest = [other for other in tables[at + 1:] if set(other) == set(one)]
        told.extend([(one, one)] + [(one, other) for other in rest[:40:3]])
    return [pair for pair in told if len(pair[0]) * len(pair[1]) * len(set(pair[0])) <= 2000]


SMALL = beside(small_tables()[::3])
MIDDLE = beside([(0, 0, 1) * 2, (0, 1, 1, 0, 1, 0), (0, 1) * 4, (0, 0, 0, 1) * 2, (0,) * 5 + (1,) * 3, (1, 0, 0) * 3,
                 (0,) * 8 + (1,), (1,) + (0,) * 8, (0, 0, 1, 1) * 3, (0, 1, 2) * 3, (0, 1, 2, 0, 1, 2, 0), (2, 1, 0, 0)])
GREAT = (
    ((0, 1) * 5 + (0,) * 15, (0, 1) * 20), ((0,) * 31 + (1,) * 33, (0, 1) * 7 + (1,)), ((0,) * 24 + (1,), (1,) + (0,) * 39),
    ((0, 1) * 16, (0, 0, 1, 1) * 7 + (0, 1, 1)), (tuple(range(10)), tuple(range(10)) * 2), ((5,) * 44, (5,) * 45),
    ((0, 1, 2, 3) * 5, tuple(sorted((0, 1, 2, 3) * 6)) + (3,)), ((0,) * 30 + (1,), (0,) * 31 + (1,)),
    ((1, 0, 1, 1, 1, 0, 1, 1, 0, 0, 1, 0, 0, 0, 0, 0, 1, 1, 1, 1, 0, 0, 1, 0, 1),
     (0, 0, 0, 1, 1, 0, 1, 1, 1, 1, 1, 0, 0, 1, 0, 0, 1, 1, 1, 0, 1, 0, 0, 1, 0, 1, 0, 1, 0, 1, 1, 0, 0, 0, 1, 0, 0, 1, 1, 1)),
)


def check_wrong_tables(test, function, *more):
    """Unfit for unlike letters, ahead of TooMany for tables that are too great together."""
    for one, other in (((0, 0, 1), (0, 0, 2)), ((0,), (1,)), ((0, 1), (0,)), ((0,), (0, 1)), ((0, 1, 2), (0, 1)),
                       ((0,) * 64, (1,) * 64), ((0, 1) * 32, (0, 2) * 32), ((0,) * 64, (0, 1) * 32)):
        test.check_raises(Unfit, {}, function, one, other, *more)
    for one, other in (((9,) * 34, (9,) * 59), ((0, 1) * 10 + (0,) * 39, (0, 1) * 8 + (1,)), ((0,) * 64, (0,) * 64),
                       ((0, 1, 2) * 7 + (0, 1), (0, 1, 2) * 9 + (2, 1)), ((0, 1) * 32, (1, 0) * 32),
                       (tuple(range(26)), tuple(range(26)))):
        test.assertGreater(len(one) * len(other) * len(set(one)), 2000)
        test.check_raises(TooMany, {"limit": 2000}, function, one, other, *more)
        test.check_raises(TooMany, {"limit": 2000}, function, other, one, *more)
    for one, other in (((9,) * 40, (9,) * 50), ((0, 1) * 10, (0, 1) * 25), ((0, 1, 2) * 6, (0, 1, 2) * 12 + (0,))):
        test.assertIn(len(one) * len(other) * len(set(one)), (2000, 1998))
        test.assertNotEqual(outcome(function, one, other, *more)[1], "TooMany")
    named = dict(zip(("one", "other", "value"), ((0, 1), (0, 2), *more)))
    test.check_raises(Unfit, {}, function, **named)
