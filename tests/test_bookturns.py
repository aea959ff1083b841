"""Lines as turns: [J5], and what [J6] tells of them."""

import random
import unittest
from fractions import Fraction

from tests.model import book_rows, line_written, some_states, states_of
from tests.support import Checks, drawn_tables, shaped_tables
from tests.test_books import BOOK, BOOKS, drawn_books, drawn_line
from unpassed.bookturns import book_rank, line_cost, line_turn
from unpassed.costs import cost
from unpassed.lots import rank
from unpassed.turns import letter_turn, plain_turn, text_turn, then, turn_error

ALL = BOOKS + drawn_books(221) + drawn_books(222)


def turn_written(book, line):
    many = len(book[0])
    told = [line_written(book, state, line) for state in states_of(book[0])]
    return tuple([len(bits) * many + state - many for bits, state in told])


def cost_walked(book, line):
    """The cost of a line, told by writing it again and again until a state comes twice."""
    states, bits = [len(book[0])], []
    while True:
        more, reached = line_written(book, states[-1], line)
        bits.append(len(more))
        if reached in states:
            at = states.index(reached)
            return Fraction(sum(bits[at:]), len(states) - at)
        states.append(reached)


class LineTurnTest(unittest.TestCase, Checks):
    def test_as_writing_tells(self):
        draw = random.Random(223)
        for book in ALL:
            for length in (0, 1, 2, 5, 13):
                line = drawn_line(draw, book, length)
                turn = turn_written(book, line)
                self.check_call(turn, line_turn, book=book, line=line)
                self.check_same(turn_error(len(book[0]), turn), None)

    def test_one_behind_the_other(self):
        draw = random.Random(224)
        for book in ALL:
            one, other = drawn_line(draw, book, 5), drawn_line(draw, book, 3)
            self.check_same(line_turn(book, one + other), then(line_turn(book, one), line_turn(book, other)))
            self.check_same(line_turn(book, one[:1]), letter_turn(book[one[0][0]], one[0][1]))

    def test_lines_of_one_place_are_texts(self):
        draw = random.Random(225)
        for book in ALL:
            place = draw.randrange(len(book))
            text = tuple([draw.choice(book[place]) for _ in range(9)])
            line = tuple([(place, letter) for letter in text])
            self.check_same(line_turn(book, line), text_turn(book[place], text))
            self.check_same(line_cost(book, line), cost(book[place], text))

    def test_nothing_and_the_longest(self):
        draw = random.Random(226)
        for book in (((9,),), ((0,) * 64,), BOOKS[-1], ((0, 1) * 32,) * 8):
            self.check_same(line_turn(book, ()), plain_turn(len(book[0])))
            line = drawn_line(draw, book, 2000)
            turn = self.check_quick(line_turn, book, line)
            for state in some_states(book[0])[::3]:
                bits, reached = line_written(book, state, line)
                self.check_same(turn[state - len(book[0])], len(bits) * len(book[0]) + reached - len(book[0]))


class LineCostTest(unittest.TestCase, Checks):
    def test_as_writing_tells(self):
        draw = random.Random(227)
        for book in ALL:
            for length in (1, 2, 3, 8):
                line = drawn_line(draw, book, length)
                wanted = cost_walked(book, line)
                told = (wanted.numerator, wanted.denominator)
                self.check_call(told, line_cost, book=book, line=line)

    def test_either_way_about(self):
        draw = random.Random(228)
        for book in ALL:
            one, other = drawn_line(draw, book, 4), drawn_line(draw, book, 3)
            self.check_same(line_cost(book, one + other), line_cost(book, other + one))
            both = Fraction(*line_cost(book, one)) + Fraction(*line_cost(book, other))
            self.assertLessEqual(abs(Fraction(*line_cost(book, one + other)) - both), 1)
            self.assertEqual(Fraction(*line_cost(book, one * 3)), 3 * Fraction(*line_cost(book, one)))

    def test_nothing_for_ever(self):
        book = ((4,) * 5, (7,) * 5, (0, 1, 0, 1, 0))
        for line in (((0, 4),), ((0, 4), (1, 7)), ((1, 7),) * 2000):
            self.check_same(line_cost(book, line), (0, 1))
        for line in (((2, 0),), ((0, 4), (2, 1)), ((1, 7),) * 1999 + ((2, 0),)):
            self.assertGreater(line_cost(book, line)[0], 0)

    def test_the_longest(self):
        draw = random.Random(229)
        for book in (BOOKS[-1], ((0, 1) * 32,) * 8, BOOK):
            line = drawn_line(draw, book, 2000)
            wanted = cost_walked(book, line)
            self.check_same(self.check_quick(line_cost, book, line), (wanted.numerator, wanted.denominator))


class BookRankTest(unittest.TestCase, Checks):
    def test_as_writing_tells(self):
        draw = random.Random(230)
        small = [book for book in ALL if len(book[0]) <= 8]
        for cells in range(1, 8):
            tables = drawn_tables(231 + cells, 30, (cells,))
            small.extend([tuple(draw.sample(tables, many)) for many in (1, 2, 2, 3)])
        for book in small:
            least = min([len(states) for states in book_rows(book)])
            self.check_call(least, book_rank, book=book)

    def test_books_of_one_table(self):
        for table in drawn_tables(232, 60, (1, 2, 3, 4, 5, 6, 9, 16, 64)) + shaped_tables():
            self.check_same(book_rank((table,)), rank(table))
            self.check_same(book_rank((table,) * 8), rank(table))

    def test_a_table_more_never_makes_it_greater(self):
        draw = random.Random(233)
        for cells in (2, 3, 4, 6, 8, 12, 64):
            tables = [(0, 1) * (cells // 2) + (0,) * (cells % 2), (5,) * cells]
            tables += drawn_tables(234, 4, (cells,)) + [tuple([draw.choice((0, 1)) for _ in range(cells)])]
            for many in range(1, 7):
                self.assertLessEqual(book_rank(tuple(tables[:many + 1])), book_rank(tuple(tables[:many])))

    def test_edges(self):
        self.check_same(book_rank(((9,),)), 1)
        self.check_same(book_rank(((9,) * 64,) * 8), 64)
        self.check_same(book_rank(((9,) * 64, (3,) * 64)), 64)
        self.check_same(book_rank(((0, 1) * 32,)), 32)
        self.check_same(book_rank(((0, 1) * 32, (0,) * 63 + (1,))), 1)
        greatest = tuple([tuple(range(26)) + (letter,) * 38 for letter in range(8)])
        self.check_same(self.check_quick(book_rank, greatest), 1)


if __name__ == "__main__":
    unittest.main()
