"""Books and lines: [J1] to [J4], and what [J6] tells of them."""

import random
import unittest

from tests.model import letters_before, line_written, read_letter, some_states, states_of
from tests.support import Checks, FAR_INTEGERS, ODD_TUPLES, ODD_VALUES, drawn_tables
from unpassed.books import book_error, by_rule, read_by, read_line, write_line
from unpassed.errors import NoLetter, NoState, Short
from unpassed.reading import read
from unpassed.writing import write

BOOK = ((0, 1, 0, 0), (0, 1, 1, 1))
BOOKS = (
    BOOK, BOOK[:1], ((9,),), ((9,), (8,), (9,)), ((0,) * 64,), ((0, 1) * 32, (0, 0, 1, 1) * 16), (BOOK[0],) * 8,
    ((0, 1, 2), (2, 1, 1), (5, 5, 5)), ((0, 1), (1, 0), (0, 0), (1, 1), (2, 3), (3, 2), (0, 3), (7, 0)),
    ((0,) * 63 + (1,), (1,) * 63 + (0,), tuple(range(26)) * 2 + tuple(range(12))),
)


def drawn_books(seed):
    """A book of 1 to 8 drawn tables for some numbers of cells."""
    draw = random.Random(seed)
    return tuple([tuple(drawn_tables(draw.random(), draw.randint(1, 8), (cells,)))
                  for cells in (1, 2, 3, 4, 5, 7, 8, 13, 33, 63, 64)])


def drawn_line(draw, book, length):
    places = [draw.randrange(len(book)) for _ in range(length)]
    return tuple([(place, draw.choice(book[place])) for place in places])


def drawn_rule(draw, book):
    letters = sorted({letter for table in book for letter in table})
    return tuple([(letter, draw.randrange(len(book))) for letter in letters])


def ruled_line(draw, book, rule, first, length):
    """A drawn line whose places the rule tells, from the last letter on."""
    line, place = [], first
    for _ in range(length):
        letter = draw.choice(book[place])
        line.insert(0, (place, letter))
        place = dict(rule)[letter]
    return tuple(line)


def line_read(book, state, bits, places):
    """What read_line should tell, or how many letters were read."""
    line = ()
    for place in places[::-1]:
        step = read_letter(letters_before(book[place]), state, bits)
        if step is None:
            return len(line)
        letter, state, bits = step
        line = ((place, letter),) + line
    return line, state, bits


class BookErrorTest(unittest.TestCase, Checks):
    def test_books(self):
        for value in BOOKS + drawn_books(201) + (((0,) * 64,) * 8,):
            self.check_call(None, book_error, value=value)

    def test_form(self):
        for value in ODD_VALUES + FAR_INTEGERS + ((), BOOK * 4 + BOOK[:1], ((),) * 9, list(BOOK), (None,) * 13000):
            self.check_call("form", book_error, value=value)

    def test_table(self):
        for value, place, error in (
            (((),), 0, "form"), ((0, 1), 0, "form"), ((BOOK[0], [0, 1, 0, 0]), 1, "form"), ((BOOK[0], (0, 26)), 1, ("cell", 1)),
            (((0,) * 65, (0,)), 0, "form"), (((0,), (True,)), 1, ("cell", 0)), (((0, 1), (0,), (0, "a"), ()), 2, ("cell", 1)),
            (((0,),) * 7 + ((0, -1),), 7, ("cell", 1)), (((0, 1, None), ()), 0, ("cell", 2)), ((None,) * 8, 0, "form"),
        ):
            self.check_call(("table", place, error), book_error, value=value)
        for value in ODD_VALUES + FAR_INTEGERS:
            self.check_call(("table", 0, "form"), book_error, value=(value,))
            self.check_call(("table", 1, "form"), book_error, value=(BOOK[0], value, (0,)))
            self.check_call(("table", 1, ("cell", 2)), book_error, value=(BOOK[0], (0, 0, {}), value))
        for value in ODD_TUPLES:
            place = [isinstance(item, int) and not isinstance(item, bool) and 0 <= item <= 25 for item in value].index(False)
            self.check_call(("table", 0, ("cell", place)), book_error, value=(value, (0,)))

    def test_cells(self):
        for value in (((0,), (0, 1)), ((0, 1), (0,)), ((0,) * 64, (0,) * 64, (0,) * 63), ((5,),) * 7 + ((5, 5),)):
            self.check_call("cells", book_error, value=value)


class LinesTest(unittest.TestCase, Checks):
    def test_as_writing_and_reading_tell(self):
        draw = random.Random(202)
        for book in BOOKS + drawn_books(203):
            for length in (0, 1, 2, 5, 13):
                line = drawn_line(draw, book, length)
                places = tuple([place for place, _ in line])
                state = draw.choice(some_states(book[0]))
                bits, reached = line_written(book, state, line)
                self.check_call((bits, reached), write_line, book=book, state=state, line=line)
                for ahead in ((), (1, 0, 0)):
                    self.check_call((line, state, ahead), read_line, book=book, state=reached, bits=ahead + bits, places=places)

    def test_write_undoes_read(self):
        draw = random.Random(204)
        for book in BOOKS + drawn_books(205):
            for _ in range(6):
                bits = tuple([draw.randrange(2) for _ in range(draw.choice((0, 3, 60)))])
                places = tuple([draw.randrange(len(book)) for _ in range(draw.choice((1, 4, 9)))])
                state = draw.choice(some_states(book[0]))
                wanted = line_read(book, state, bits, places)
                if isinstance(wanted, int):
                    self.check_raises(Short, {"done": wanted}, read_line, book, state, bits, places)
                else:
                    self.check_same(read_line(book, state, bits, places), wanted)
                    line, start, rest = wanted
                    self.check_same(write_line(book, start, line), (bits[len(rest):], state))

    def test_lines_of_one_place_are_texts(self):
        draw = random.Random(206)
        for book in BOOKS + drawn_books(207):
            place = draw.randrange(len(book))
            text = tuple([draw.choice(book[place]) for _ in range(20)])
            state = draw.choice(some_states(book[0]))
            line = tuple([(place, letter) for letter in text])
            self.check_same(write_line(book, state, line), write(book[place], state, text))
            bits, reached = write(book[place], state, text)
            self.check_same(read_line(book, reached, bits, (place,) * 20), (line, state, ()))

    def test_two_parts(self):
        draw = random.Random(208)
        for book in BOOKS:
            one, other = drawn_line(draw, book, 5), drawn_line(draw, book, 4)
            for state in some_states(book[0]):
                bits, between = write_line(book, state, one)
                more, last = write_line(book, between, other)
                self.check_same(write_line(book, state, one + other), (bits + more, last))

    def test_longest(self):
        draw = random.Random(209)
        for book in BOOKS[-2:] + (((0,) * 63 + (1,),) * 8,) + drawn_books(210)[-1:]:
            line = drawn_line(draw, book, 2000)
            bits, state = self.check_quick(write_line, book, len(book[0]), line)
            self.check_same((bits, state), line_written(book, len(book[0]), line))
            places = tuple([place for place, _ in line])
            self.check_same(self.check_quick(read_line, book, state, bits, places), (line, len(book[0]), ()))
        book = ((0,) * 63 + (1,), (2,) * 63 + (3,))
        bits, state = write_line(book, 64, ((0, 1), (1, 3)) * 1000)
        self.check_same((len(bits), state), (12000, 127))
        self.check_same(read_line(book, 127, bits, (0, 1) * 1000), (((0, 1), (1, 3)) * 1000, 64, ()))

    def test_nothing(self):
        for book in BOOKS:
            for state in some_states(book[0]):
                self.check_same(write_line(book, state, ()), ((), state))
                self.check_same(read_line(book, state, (), ()), ((), state, ()))
                self.check_same(read_line(book, state, (1,) * 12000, ()), ((), state, (1,) * 12000))

    def test_no_letter(self):
        for line, given in (
            (((0, 2),), 2), (((0, 0), (1, 25), (0, 2)), 25), (((1, 1), (0, 1), (1, 7)), 7), (((0, 0),) * 1999 + ((1, 5),), 5),
        ):
            for state in range(4, 8):
                self.check_raises(NoLetter, {"given": given}, write_line, BOOK, state, line)
        self.check_raises(NoLetter, {"given": 0}, write_line, ((0, 1), (1, 2)), 2, ((0, 0), (1, 0)))
        self.check_raises(NoLetter, {"given": 0}, write_line, book=((0, 1), (1, 2)), state=3, line=((1, 0),))

    def test_short(self):
        self.check_raises(Short, {"done": 0}, read_line, book=BOOK, state=5, bits=(), places=(1, 1))
        # From 5 the second table takes 0 to 6, and leads from there to 4 without a bit; there the first one needs one.
        self.check_raises(Short, {"done": 2}, read_line, BOOK, 5, (0,), (0, 1, 1))
        self.check_raises(Short, {"done": 2}, read_line, BOOK, 5, (0,), (0,) * 1998 + (1, 1))
        self.check_same(read_line(BOOK, 5, (0,), (1, 1)), (((1, 1), (1, 1)), 4, ()))


class RulesTest(unittest.TestCase, Checks):
    def test_there_and_back(self):
        draw = random.Random(211)
        for book in BOOKS + drawn_books(212):
            for length in (0, 1, 2, 9, 30):
                rule, first = drawn_rule(draw, book), draw.randrange(len(book))
                line = ruled_line(draw, book, rule, first, length)
                text = tuple([letter for _, letter in line])
                self.check_call(line, by_rule, book=book, rule=rule, first=first, text=text)
                state = draw.choice(some_states(book[0]))
                bits, reached = write_line(book, state, line)
                for ahead in ((), (0, 1)):
                    self.check_call((text, state, ahead), read_by, book=book, rule=rule, first=first, state=reached,
                                    bits=ahead + bits, many=length)

    def test_as_reading_lines_tells(self):
        draw = random.Random(213)
        for book in BOOKS + drawn_books(214):
            for _ in range(8):
                rule, first = drawn_rule(draw, book), draw.randrange(len(book))
                bits = tuple([draw.randrange(2) for _ in range(draw.choice((0, 5, 30)))])
                state, many = draw.choice(some_states(book[0])), draw.choice((1, 3, 8))
                self.check_read_by(book, rule, first, state, bits, many)

    def check_read_by(self, book, rule, first, state, bits, many):
        text, reached, left, place = (), state, bits, first
        while len(text) < many:
            step = read_letter(letters_before(book[place]), reached, left)
            if step is None:
                self.check_raises(Short, {"done": len(text)}, read_by, book, rule, first, state, bits, many)
                return
            letter, reached, left = step
            text = (letter,) + text
            place = dict(rule)[letter]
        self.check_same(read_by(book, rule, first, state, bits, many), (text, reached, left))

    def test_books_of_one_table(self):
        draw = random.Random(215)
        for table in drawn_tables(216, 6, (3, 8, 64)):
            rule = drawn_rule(draw, (table,))
            text = tuple([draw.choice(table) for _ in range(30)])
            self.check_same(by_rule((table,), rule, 0, text), tuple([(0, letter) for letter in text]))
            bits, state = write(table, len(table), text)
            self.check_same(read_by((table,), rule, 0, state, bits, 30), read(table, state, bits, 30))

    def test_longest(self):
        draw = random.Random(217)
        for book in BOOKS[-2:] + drawn_books(218)[-1:]:
            rule, first = drawn_rule(draw, book), len(book) - 1
            line = ruled_line(draw, book, rule, first, 2000)
            text = tuple([letter for _, letter in line])
            self.check_same(self.check_quick(by_rule, book, rule, first, text), line)
            bits, state = write_line(book, len(book[0]), line)
            told = self.check_quick(read_by, book, rule, first, state, bits, 2000)
            self.check_same(told, (text, len(book[0]), ()))

    def test_no_letter_from_the_last_one_on(self):
        rule = ((0, 1), (1, 0), (2, 0))
        book = ((0, 1, 1), (1, 2, 2))
        for first, text, given in (
            (0, (5, 2, 0), 5), (0, (5, 0), 5), (1, (0,), 0), (0, (7, 8, 25), 25), (0, (2, 1), 2), (0, (0, 0), 0),
            # 2 by the second table, 1 by the first one, 0 likewise; then 0 would be of the second one, which has none.
            (1, (9, 0, 0, 1, 2), 0), (0, (3,) + (0, 1) * 999 + (1,), 3),
        ):
            self.check_raises(NoLetter, {"given": given}, by_rule, book, rule, first, text)
        self.check_raises(NoLetter, {"given": 2}, by_rule, book=BOOK, rule=rule[:2], first=0, text=(5, 2, 0))
        self.check_same(by_rule(book, rule, 1, ()), ())

    def test_short(self):
        rule = ((0, 1), (1, 0))
        for first, state, bits, many, done in ((1, 5, (), 2, 0), (0, 4, (1,), 2000, 2), (1, 5, (1, 1), 9, 4)):
            self.check_raises(Short, {"done": done}, read_by, BOOK, rule, first, state, bits, many)
        named = {"book": BOOK, "rule": rule, "first": 1, "state": 5, "bits": (), "many": 1}
        self.check_raises(Short, {"done": 0}, read_by, **named)


class StatesTest(unittest.TestCase, Checks):
    def test_no_state(self):
        rule = ((0, 1), (1, 0))
        for value in ODD_VALUES + ODD_TUPLES + FAR_INTEGERS + (0, 3, 8):
            for line in ((), ((0, 0),), ((0, 2),)):
                self.check_raises(NoState, {"given": value}, write_line, BOOK, value, line)
            for places in ((), (0, 1), (1,)):
                self.check_raises(NoState, {"given": value}, read_line, BOOK, value, (), places)
            for many in (0, 2):
                self.check_raises(NoState, {"given": value}, read_by, BOOK, rule, 0, value, (), many)
        for book in BOOKS:
            for state in (len(book[0]) - 1, 2 * len(book[0])):
                self.check_raises(NoState, {"given": state}, write_line, book, state, ())
                self.check_raises(NoState, {"given": state}, read_line, book, state, (), ())
        self.check_raises(NoState, {"given": True}, write_line, ((9,), (8,)), True, ((0, 5),))

    def test_all_states(self):
        for book in BOOKS[:4]:
            for state in states_of(book[0]):
                self.check_same(write_line(book, state, ())[1], state)


if __name__ == "__main__":
    unittest.main()
