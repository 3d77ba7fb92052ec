"""Promises [3], [12] and [13]: divisors, free, many and tells tell all classes of a board."""

import random
import unittest
from itertools import product
from math import gcd

from sheetmoves.boards import Board
from sheetmoves.books import Book
from sheetmoves.colourings import is_colouring, is_of, weight
from sheetmoves.stands import Stand

LIE = ((0, 0, "a", 1), (1, 0, "a", 1), (2, 0, "a", 1))
UP = ((0, 0, "a", 1), (0, 1, "a", 1), (0, 2, "a", 1))
BARS = Book("a", (("lie", LIE), ("stand", UP)))
LEAP = Book("a", (("leap", ((0, 0, "a", 1), (1, 0, "a", 1), (2, 0, "a", -1))),
                  ("up", ((0, 0, "a", 1), (0, 1, "a", 1), (0, 2, "a", -1)))))
STEP = Book("a", (("step", ((0, 0, "a", -1), (2, 0, "a", 1))),))
NINES = Book("a", (("grow", ((0, 0, "a", 9), (1, 0, "a", -1))), ("up", ((0, 0, "a", 1), (0, 1, "a", -1)))))
KNIGHT = Book("ab", (("knight", ((-1, -2, "a", 3), (0, 0, "a", -1), (0, 0, "b", 4), (1, 2, "b", 2))), ("six", ((0, 0, "b", 6), (1, 0, "a", 2)))))
THREE = Book("abc", (("swap", ((0, 0, "a", -2), (0, 1, "b", 2))), ("turn", ((0, 0, "b", 1), (3, 2, "c", -9))), ("up", ((0, 0, "c", 4), (1, 0, "c", -4)))))
BOOKS = (BARS, LEAP, STEP, NINES, KNIGHT, THREE)
ONE = Stand("a", ((0, 0, "a", 1),))
NONE = Stand("a")


def all_sides(kinds, most=24):
    cells = most // len(kinds)
    return [(a, b) for a in range(1, cells + 1) for b in range(1, cells // a + 1)]


def some_book(source, kinds):
    """A book with one to four moves within a square of 4 x 4 cells anywhere."""
    moves = []
    for name in "pqrs"[:source.randrange(1, 5)]:
        left, low = source.randrange(-99, 99), source.randrange(-99, 99)
        numbers = {}
        for _ in range(source.randrange(1, 7)):
            cell = (left + source.randrange(4), low + source.randrange(4), source.choice(kinds))
            numbers[cell] = source.choice((-1, 1)) * source.randrange(1, 10)
        moves.append((name, tuple(sorted((*cell, number) for cell, number in numbers.items()))))
    return Book(kinds, tuple(moves))


def some_stand(source, kinds):
    numbers = {}
    for _ in range(source.randrange(1, 7)):
        cell = (source.randrange(-99, 99), source.randrange(-99, 99), source.choice(kinds))
        numbers[cell] = source.choice((-1, 1)) * source.randrange(1, source.choice((3, 50, 10 ** 40)))
    return Stand(kinds, tuple(sorted((*cell, number) for cell, number in numbers.items())))


def row_of(stand, a, b):
    """The numbers of a stand on a board, in a list."""
    row = []
    for kind in stand.kinds:
        for x in range(a):
            for y in range(b):
                row.append(sum(n for right, up, other, n in stand.entries
                               if other == kind and right % a == x and up % b == y))
    return row


def rows_of_moves(book, a, b):
    return [row_of(book[name].moved((x, y)), a, b) for name in book.names for x in range(a) for y in range(b)]


def stairs(rows):
    """Rows with the same sums, each beginning further to the right: a dict from the column where it begins."""
    found = {}
    for row in rows:
        for at in range(len(row)):
            while row[at] != 0 and at in found:
                many = row[at] // found[at][at]
                row = [one - many * other for one, other in zip(row, found[at])]
                if row[at] != 0:
                    row, found[at] = found[at], row
            if row[at] != 0:
                found[at] = row
                break
    return found


def is_sum_of(found, row):
    """Whether a row is a sum of the rows of such a dict."""
    for at in range(len(row)):
        if row[at] != 0:
            if at not in found or row[at] % found[at][at] != 0:
                return False
            many = row[at] // found[at][at]
            row = [one - many * other for one, other in zip(row, found[at])]
    return True


def rank_modulo(rows, prime):
    """How many of the rows are independent modulo a prime."""
    rows = [[number % prime for number in row] for row in rows]
    rank = 0
    for at in range(len(rows[0])):
        pivot = next((row for row in rows if row[at] != 0), None)
        if pivot is not None:
            rows.remove(pivot)
            inverse = pow(pivot[at], -1, prime)
            rows = [[(one - row[at] * inverse * other) % prime for one, other in zip(row, pivot)] for row in rows]
            rank += 1
    return rank


def by_trying(book, m, a, b):
    """The number of colourings, by all tables."""
    size = a * b * len(book.kinds)
    moves = [row for row in rows_of_moves(book, a, b) if any(number % m for number in row)]
    return sum(all(sum(map(int.__mul__, row, numbers)) % m == 0 for row in moves)
               for numbers in product(range(m), repeat=size))


class TestDivisors(unittest.TestCase):
    def assert_right_form(self, board):
        divisors = board.divisors
        self.assertIsInstance(divisors, tuple)
        self.assertTrue(all(type(divisor) is int and divisor >= 2 for divisor in divisors))
        self.assertTrue(all(other % one == 0 for one, other in zip(divisors, divisors[1:])))
        self.assertIs(type(board.free), int)
        self.assertGreaterEqual(board.free, 0)

    def assert_right(self, book, a, b):
        """The divisors and free, by the rank modulo primes and by the number of all classes."""
        board = Board(book, a, b)
        self.assert_right_form(board)
        rows = rows_of_moves(book, a, b)
        size = len(rows[0])
        found = stairs(rows)
        self.assertEqual(board.free, size - len(found))
        for prime in (2, 3, 5, 7, 11, 13, 10 ** 9 + 7):
            divided = len([divisor for divisor in board.divisors if divisor % prime == 0])
            self.assertEqual(divided, size - rank_modulo(rows, prime) - board.free)
        if board.free == 0:
            classes = 1
            for at in found:
                classes *= abs(found[at][at])
            for divisor in board.divisors:
                self.assertEqual(classes % divisor, 0)
                classes //= divisor
            self.assertEqual(classes, 1)

    def test_examples(self):
        for book, a, b, divisors, free in [(BARS, 3, 3, (), 4), (LEAP, 3, 3, (2, 2, 2, 2), 0), (STEP, 2, 1, (), 2),
                                           (STEP, 1, 1, (), 1), (BARS, 1, 1, (3,), 0), (LEAP, 1, 1, (), 0)]:
            board = Board(book, a, b)
            self.assertEqual((board.divisors, board.free), (divisors, free))

    def test_worked_out(self):
        for a, b in all_sides("a"):
            board = Board(NINES, a, b)
            self.assertEqual((board.divisors, board.free), ((9 ** a - 1,), 0))
            board = Board(STEP, a, b)
            self.assertEqual((board.divisors, board.free), ((), b * (2 if a % 2 == 0 else 1)))
            # Three cells in a row are nothing, so the numbers of a square of 2 x 2 cells tell all.
            board = Board(BARS, a, b)
            if a % 3 == 0 and b % 3 == 0:
                self.assertEqual((board.divisors, board.free), ((), 4))
        book = Book("abc", (("a", ((0, 0, "a", 4),)), ("b", ((0, 0, "b", 6),))))
        self.assertEqual((Board(book, 1, 1).divisors, Board(book, 1, 1).free), ((2, 12), 1))
        self.assertEqual((Board(book, 2, 1).divisors, Board(book, 2, 1).free), ((2, 2, 12, 12), 2))
        book = Book("abc", (("a", ((0, 0, "a", 6),)), ("b", ((0, 0, "b", 9),)), ("c", ((0, 0, "c", 4),))))
        self.assertEqual((Board(book, 1, 1).divisors, Board(book, 1, 1).free), ((6, 36), 0))
        book = Book("a", (("all", ((0, 0, "a", -1),)),))
        self.assertEqual((Board(book, 4, 6).divisors, Board(book, 4, 6).free), ((), 0))

    def test_all_sides(self):
        for book in BOOKS:
            for a, b in all_sides(book.kinds):
                with self.subTest(book=str(book), sides=(a, b)):
                    self.assert_right(book, a, b)

    def test_some_books(self):
        source = random.Random(10)
        for kinds in ("a", "b", "ab", "xyz"):
            sides = all_sides(kinds)
            for _ in range(40):
                book = some_book(source, kinds)
                a, b = source.choice(sides)
                with self.subTest(book=str(book), sides=(a, b)):
                    self.assert_right(book, a, b)

    def test_the_largest_boards(self):
        source = random.Random(11)
        for kinds, a, b in [("a", 24, 1), ("a", 1, 24), ("a", 4, 6), ("ab", 3, 4), ("ab", 12, 1), ("abc", 2, 4), ("abc", 1, 8)]:
            for _ in range(6):
                self.assert_right(some_book(source, kinds), a, b)

    def test_moved_and_turned_books(self):
        source = random.Random(12)
        for _ in range(30):
            book = some_book(source, "ab")
            a, b = source.choice(all_sides("ab"))
            board = Board(book, a, b)
            turned = Board(book.turned(), b, a)
            mirrored = Board(book.mirrored(), b, a)
            self.assertEqual((turned.divisors, turned.free), (board.divisors, board.free))
            self.assertEqual((mirrored.divisors, mirrored.free), (board.divisors, board.free))


class TestMany(unittest.TestCase):
    def test_examples(self):
        board = Board(LEAP, 3, 3)
        self.assertEqual([board.many(m) for m in (2, 3, 4, 5, 6, 10 ** 9)], [16, 1, 16, 1, 16, 16])
        board = Board(BARS, 3, 3)
        self.assertEqual([board.many(m) for m in (2, 3, 10, 10 ** 9)], [16, 81, 10 ** 4, 10 ** 36])

    def test_against_trying_all(self):
        for book, tried in [(BARS, [(2, 3, 3), (3, 3, 2), (2, 4, 2), (5, 2, 2)]), (LEAP, [(2, 3, 3), (3, 4, 2), (4, 3, 1), (6, 2, 2)]),
                            (STEP, [(2, 4, 2), (7, 3, 1), (4, 1, 4)]), (NINES, [(8, 2, 2), (4, 3, 1), (10, 1, 2)]),
                            (KNIGHT, [(2, 2, 2), (3, 1, 3), (6, 1, 2), (4, 3, 1), (12, 1, 1)]),
                            (THREE, [(2, 3, 1), (4, 1, 2), (3, 1, 2), (9, 1, 1), (18, 1, 1)])]:
            for m, a, b in tried:
                with self.subTest(book=str(book), m=m, sides=(a, b)):
                    self.assertEqual(Board(book, a, b).many(m), by_trying(book, m, a, b))

    def test_some_books_against_trying_all(self):
        source = random.Random(13)
        for _ in range(40):
            book = some_book(source, "ab")
            m, a, b = source.choice([(2, 2, 2), (3, 3, 1), (4, 1, 2), (6, 2, 1), (9, 1, 1), (2, 1, 4)])
            with self.subTest(book=str(book), m=m, sides=(a, b)):
                self.assertEqual(Board(book, a, b).many(m), by_trying(book, m, a, b))

    def test_by_divisors_and_free(self):
        source = random.Random(14)
        for _ in range(40):
            book = some_book(source, "abc")
            board = Board(book, *source.choice(all_sides("abc")))
            for m in (2, 3, 4, 6, 12, 36, 97, 10 ** 9):
                expected = m ** board.free
                for divisor in board.divisors:
                    expected *= gcd(m, divisor)
                self.assertEqual(board.many(m), expected)

    def test_by_name(self):
        self.assertEqual(Board(BARS, 3, 3).many(m=2), 16)


class TestTells(unittest.TestCase):
    def assert_right(self, board, found, one, other):
        """None just for what is alike, by going through the moves; otherwise a colouring that bars."""
        rows = stairs(rows_of_moves(board.book, board.a, board.b))
        alike = is_sum_of(rows, row_of(one - other, board.a, board.b))
        self.assertIs(board.alike(one, other), alike)
        if alike:
            self.assertIsNone(found)
            return
        self.assertIs(is_colouring(board.book.kinds, found), True)
        self.assertEqual(found[1:3], (board.a, board.b))
        self.assertIs(is_of(board.book, found), True)
        self.assertNotEqual(weight(found, one), weight(found, other))

    def test_worked_out(self):
        self.assertIsNone(Board(STEP, 2, 1).tells(ONE, ONE.moved((4, 0))))
        self.assertIsNone(Board(BARS, 3, 3).tells(ONE, ONE))
        self.assertIsNone(Board(BARS, 3, 3).tells(ONE, ONE.moved((-3, 6))))
        for board, one, other in [(Board(STEP, 2, 1), ONE, ONE.moved((3, 0))), (Board(BARS, 3, 3), ONE, ONE.moved((1, 0))),
                                  (Board(BARS, 1, 1), ONE, NONE), (Board(LEAP, 3, 3), NONE, ONE)]:
            self.assert_right(board, board.tells(one, other), one, other)
            self.assertIsNotNone(board.tells(one, other))

    def test_great_differences_on_free_parts(self):
        # Each m up to 100 divides this number, so the colouring has to have a greater one.
        number = 1
        for m in range(1, 101):
            number = number * m // gcd(number, m)
        for board in (Board(STEP, 1, 1), Board(STEP, 2, 1), Board(BARS, 3, 3)):
            for times in (1, 2, 3, 6, 10 ** 9, number, -number, 10 ** 40):
                one = Stand("a", ((1, 1, "a", times),))
                found = board.tells(one, NONE)
                self.assertIsNotNone(found)
                self.assert_right(board, found, one, NONE)

    def test_great_divisors(self):
        board = Board(NINES, 24, 1)
        for times in (1, 2, 10 ** 40, 9 ** 24 - 2, (9 ** 24 - 1) // 2, -1):
            found = board.tells(NONE, ONE * times)
            self.assertIsNotNone(found)
            self.assert_right(board, found, NONE, ONE * times)
        self.assertIsNone(board.tells(NONE, ONE * (9 ** 24 - 1)))

    def test_all_sides(self):
        source = random.Random(15)
        for book in BOOKS:
            for a, b in all_sides(book.kinds):
                board = Board(book, a, b)
                for _ in range(2):
                    one, other = some_stand(source, book.kinds), some_stand(source, book.kinds)
                    with self.subTest(book=str(book), sides=(a, b)):
                        self.assert_right(board, board.tells(one, other), one, other)

    def test_some_books(self):
        source = random.Random(16)
        seen = {True: 0, False: 0}
        for kinds in ("a", "ab", "abc"):
            for _ in range(40):
                book = some_book(source, kinds)
                board = Board(book, *source.choice(all_sides(kinds)))
                for _ in range(4):
                    one, other = some_stand(source, kinds), some_stand(source, kinds)
                    found = board.tells(one, other)
                    self.assert_right(board, found, one, other)
                    # A multiple of the order is alike to nothing, and this is told, too.
                    order = board.order(one)
                    if order is not None:
                        self.assert_right(board, board.tells(one * order, Stand(kinds)), one * order, Stand(kinds))
                        self.assertIsNone(board.tells(other + one * order, other))
                    seen[found is None] += 1
        self.assertGreater(min(seen.values()), 20)

    def test_all_stands_of_a_small_board(self):
        for book, a, b in [(LEAP, 3, 1), (LEAP, 2, 2), (BARS, 2, 2), (STEP, 4, 1)]:
            board = Board(book, a, b)
            for numbers in product(range(-1, 3), repeat=a * b):
                stand = Stand("a", tuple((at // b, at % b, "a", number) for at, number in enumerate(numbers) if number != 0))
                self.assert_right(board, board.tells(stand, NONE), stand, NONE)

    def test_arguments_stay(self):
        board = Board(LEAP, 3, 3)
        kept = (str(LEAP), ONE.entries, board.divisors, board.free)
        board.tells(ONE, NONE)
        board.alike(ONE, NONE)
        board.order(ONE)
        board.many(6)
        self.assertEqual((str(board.book), ONE.entries, board.divisors, board.free), kept)

    def test_by_name(self):
        self.assertIsNone(Board(BARS, 1, 1).tells(other=NONE, one=NONE))
