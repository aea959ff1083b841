"""Tables from lengths: [L1] to [L5]."""

import itertools
import random
import unittest

from tests.model import least_telling, tells, written
from tests.pairs import GREAT, MIDDLE, SMALL, check_wrong_tables
from tests.support import Checks, FAR_INTEGERS, ODD_TUPLES, ODD_VALUES, small_tables
from unpassed.costs import cost
from unpassed.errors import TooMany
from unpassed.lengths import bits_told, fitting, seen_error, sure_cells, telling_text
from unpassed.tables import text_error

# How many cells and letters; the choices can all be gone through in good time.
SIZES = ((1, (0,)), (1, (25,)), (3, (4,)), (2, (0, 1)), (3, (0, 1)), (4, (3, 20)), (6, (0, 1)), (3, (0, 1, 2)),
         (4, (0, 5, 25)), (5, (1, 2, 3)), (4, (0, 1, 2, 3)), (5, (0, 1, 2, 3)), (8, (0, 1)), (64, (7,)))
# Just as many choices as may be, or nearly: 1806, 1800, 1560, 1022.
MOST = ((7, (0, 1, 2)), (6, (0, 1, 2, 3, 4)), (6, (2, 3, 5, 7)), (10, (0, 1)))
# 2046 are the fewest that are too many.
MORE = ((11, (0, 1)), (8, (0, 1, 2)), (7, (0, 1, 2, 3)), (7, tuple(range(7))), (64, (0, 1)), (64, tuple(range(26))),
        (26, tuple(range(26))), (12, (3, 4)))
NONE = ((1, (0, 1)), (2, (0, 1, 2)), (25, tuple(range(26))), (1, tuple(range(26))))


def choices_of(many, letters):
    return [table for table in itertools.product(letters, repeat=many) if set(table) == set(letters)]


def bits_of(table, text):
    return len(written(table, len(table), text)[0])


def seen_of(table, texts):
    return tuple([(text, bits_of(table, text)) for text in texts])


def drawn_texts(draw, letters, most=40):
    """Texts of these letters that have at most so many letters together."""
    texts = []
    while True:
        text = tuple([draw.choice(letters) for _ in range(draw.choice((0, 1, 2, 3, 5, 9)))])
        if sum(map(len, texts)) + len(text) > most or len(texts) == 8:
            return texts
        texts.append(text)


class SeenErrorTest(unittest.TestCase, Checks):
    def test_sightings(self):
        for value in ((), (((0, 1), 3),), (((), 0),) * 40, (((0,), 10 ** 399),) * 40, (((1,) * 40, 0),), (((0,) * 20, 5),) * 2,
                      (((), 7), ((0,), 0))):
            self.check_call(None, seen_error, letters=(0, 1), value=value)
        self.check_same(seen_error((25,), (((25, 25), 1),)), None)

    def test_form(self):
        for value in ODD_VALUES + FAR_INTEGERS + ((((), 0),) * 41, (None,) * 41, (None,) * 13000, [((0,), 1)]):
            self.check_call("form", seen_error, letters=(0, 1), value=value)

    def test_item(self):
        right = ((0, 1), 3)
        for item in ((), ((0,),), ((0,), 1, 2), [(0,), 1], ([0], 1), ("", 1), ((0, 2), 1), ((26,), 1), ((-1,), 0), ((True,), 1),
                     ((0, False), 1), ((0, (0,)), 1), ((0,), -1), ((0,), True), ((0,), False), ((0,), None), ((0,), "1"),
                     ((0,), (1,)), (0, 1), (1, (0,)), ((0,), -10 ** 399), ((0,) * 12000 + (2,), 1)):
            for value, place in (((item,), 0), ((right, item), 1), ((item, None), 0), ((right,) * 39 + (item,), 39)):
                self.check_same(seen_error((0, 1), value), ("item", place))
        for item in ODD_VALUES + FAR_INTEGERS + ODD_TUPLES:
            self.check_call(("item", 1), seen_error, letters=(0, 1), value=(right, item, None))
            self.check_same(seen_error((0, 1), ((item, 1),)), ("item", 0))
            if item not in FAR_INTEGERS:
                self.check_same(seen_error((0, 1), (right, ((0,), item))), ("item", 1))
            self.check_same(seen_error((0, 1), (right, ((0, item), 1))), ("item", 1))
        self.check_same(seen_error((0,), (((0, 1), 1),)), ("item", 0))

    def test_long(self):
        for value in ((((0,) * 41, 9),), (((0,) * 20, 1), ((1,) * 21, 1)), (((0, 1), 2),) * 21, (((0,) * 12000, 0),),
                      (((0,) * 40, 1), ((), 0), ((1,), 1))):
            self.check_call("long", seen_error, letters=(0, 1), value=value)
        self.check_same(seen_error((0, 1), (((0,) * 41, 9), ((2,), 1))), ("item", 1))


class FittingTest(unittest.TestCase, Checks):
    def check_seen(self, many, letters, seen, text):
        tables = tuple([table for table in choices_of(many, letters)
                        if all([bits_of(table, own) == bits for own, bits in seen])])
        named = {"many": many, "letters": letters, "seen": seen}
        self.check_call(tables, fitting, **named)
        columns = [{table[cell] for table in tables} for cell in range(many)] if tables else []
        wanted = tuple([sorted(column)[0] if len(column) == 1 else None for column in columns])
        self.check_call(wanted, sure_cells, **named)
        told = tuple(sorted({bits_of(table, text) for table in tables}))
        self.check_call(told, bits_told, **named, text=text)
        return tables

    def test_sightings_of_choices(self):
        draw = random.Random(251)
        for many, letters in SIZES:
            choices = choices_of(many, letters)
            for _ in range(5):
                table = draw.choice(choices)
                seen = seen_of(table, drawn_texts(draw, letters, 20))
                text = tuple([draw.choice(letters) for _ in range(draw.choice((0, 1, 7)))])
                self.assertIn(table, self.check_seen(many, letters, seen, text))

    def test_sightings_of_none(self):
        draw = random.Random(252)
        for many, letters in SIZES:
            for bits in (0, 1, 2, 7, 10 ** 399):
                seen = (((draw.choice(letters),), bits), (letters[:1], draw.choice((0, 1, bits))))
                self.check_seen(many, letters, seen, letters)
            self.check_same(fitting(many, letters, (((), 1),)), ())
            self.check_same(fitting(many, letters, ((letters, 1), (letters, 2))), ())

    def test_nothing_seen(self):
        for many, letters in SIZES:
            self.check_seen(many, letters, (), ())
            self.check_seen(many, letters, (((), 0),) * 40, letters[:1])

    def test_just_as_many_as_may_be(self):
        draw = random.Random(253)
        for many, letters in MOST:
            choices = choices_of(many, letters)
            self.assertLessEqual(len(choices), 2000)
            self.check_same(self.check_quick(fitting, many, letters, ()), tuple(choices))
            table = draw.choice(choices)
            for texts in ([(letter,) for letter in letters * 40][:40], [tuple((letters * 40)[:40])]):
                seen = seen_of(table, texts)
                self.check_quick(sure_cells, many, letters, seen)
                self.check_quick(bits_told, many, letters, seen, tuple((letters[::-1] * 40)[:40]))
                self.assertIn(table, self.check_quick(fitting, many, letters, seen))
            seen = seen_of(table, drawn_texts(draw, letters))
            self.check_seen(many, letters, seen, tuple((letters[::-1] * 40)[:40]))

    def test_too_many(self):
        for many, letters in MORE:
            for seen in ((), ((letters[:1], 0),), (((), 5),)):
                for function, text in ((fitting, ()), (sure_cells, ()), (bits_told, (letters[:1],))):
                    self.check_raises(TooMany, {"limit": 2000}, function, many, letters, seen, *text)
        self.check_raises(TooMany, {"limit": 2000}, bits_told, many=11, letters=(0, 1), seen=(), text=())
        self.check_raises(TooMany, {"limit": 2000}, sure_cells, many=11, letters=(0, 1), seen=())
        self.check_raises(TooMany, {"limit": 2000}, fitting, many=11, letters=(0, 1), seen=())

    def test_fewer_cells_than_letters(self):
        for many, letters in NONE:
            for seen in ((), ((letters[:1], 0),)):
                told = [self.check_quick(function, many, letters, seen) for function in (fitting, sure_cells)]
                self.check_same(told + [bits_told(many, letters, seen, letters)], [(), (), ()])

    def test_one_letter_alone(self):
        for many in (1, 2, 63, 64):
            seen = seen_of((7,) * many, [(7,) * 40])
            self.check_same(fitting(many, (7,), seen), ((7,) * many,))
            self.check_same(sure_cells(many, (7,), seen), (7,) * many)
            self.check_same(bits_told(many, (7,), seen, (7,)), (0,))


class TellingTest(unittest.TestCase, Checks):
    def check_telling(self, one, other):
        text = self.check_quick(telling_text, one, other)
        wanted = least_telling(one, other)
        if wanted is None:
            self.check_same(text, None)
        else:
            self.check_same((text_error(one, text), len(text)), (None, wanted))
            self.assertTrue(tells(one, other, text))
            self.assertLessEqual(len(text), len(one) * len(other))
        self.check_call(text, telling_text, one=one, other=other)
        return text

    def test_shortest(self):
        for one, other in SMALL + MIDDLE:
            self.check_telling(one, other)
            self.check_telling(other, one)

    def test_greatest(self):
        for one, other in GREAT:
            self.check_telling(one, other)
        self.check_same(self.check_telling((5,) * 44, (5,) * 45), None)

    def test_all_of_one_size(self):
        tables = [table for table in small_tables() if set(table) == {0, 1}]
        for one, other in itertools.product(tables[::3], tables[::4]):
            self.check_telling(one, other)

    def test_itself(self):
        for table in small_tables()[::9] + [(9,), (0, 1) * 15, (5,) * 40]:
            self.check_same(telling_text(table, table), None)

    def test_wrong_tables(self):
        check_wrong_tables(self, telling_text)


class LawsTest(unittest.TestCase, Checks):
    def test_more_pairs_leave_no_more(self):
        draw = random.Random(254)
        for many, letters in SIZES[3:12]:
            table = draw.choice(choices_of(many, letters))
            seen = seen_of(table, drawn_texts(draw, letters, 12))
            rows = [set(fitting(many, letters, seen[:size])) for size in range(len(seen) + 1)]
            for fewer, more in zip(rows, rows[1:]):
                self.assertLessEqual(more, fewer)

    def test_without_a_telling_text(self):
        draw = random.Random(255)
        for many, letters in ((3, (0, 1)), (4, (0, 1)), (5, (0, 1)), (4, (0, 1, 2))):
            choices = choices_of(many, letters)
            seen = seen_of(draw.choice(choices), drawn_texts(draw, letters, 6))
            tables = fitting(many, letters, seen)
            for one, other in itertools.combinations(choices, 2):
                if telling_text(one, other) is None:
                    self.assertEqual(one in tables, other in tables)
                    for text in itertools.product(letters, repeat=3):
                        self.check_same(cost(one, text), cost(other, text))

    def test_letters_exchanged(self):
        draw = random.Random(256)
        for many, letters in ((3, (0, 1)), (5, (3, 20)), (4, (0, 5, 25))):
            turned = {letters[0]: letters[1], letters[1]: letters[0]}
            table = draw.choice(choices_of(many, letters))
            seen = seen_of(table, drawn_texts(draw, letters, 6))
            changed = tuple([(tuple([turned.get(letter, letter) for letter in text]), bits) for text, bits in seen])
            tables = [tuple([turned.get(letter, letter) for letter in own]) for own in fitting(many, letters, seen)]
            self.check_same(fitting(many, letters, changed), tuple(sorted(tables)))


if __name__ == "__main__":
    unittest.main()
