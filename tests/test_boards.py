"""Promises [3] and [12]: Board, its attributes, folded, done, alike and order, and OtherKinds."""

import random
import unittest

from sheetmoves import boards
from sheetmoves.boards import Board
from sheetmoves.books import Book
from sheetmoves.errors import OtherKinds
from sheetmoves.scripts import change, laid, undone
from sheetmoves.stands import Stand

LIE = ((0, 0, "a", 1), (1, 0, "a", 1), (2, 0, "a", 1))
UP = ((0, 0, "a", 1), (0, 1, "a", 1), (0, 2, "a", 1))
BARS = Book("a", (("lie", LIE), ("stand", UP)))
LEAP = Book("a", (("leap", ((0, 0, "a", 1), (1, 0, "a", 1), (2, 0, "a", -1))),
                  ("up", ((0, 0, "a", 1), (0, 1, "a", 1), (0, 2, "a", -1)))))
STEP = Book("a", (("step", ((0, 0, "a", -1), (2, 0, "a", 1))),))
# Nine at a cell are as good as one to the right of it.
NINES = Book("a", (("grow", ((0, 0, "a", 9), (1, 0, "a", -1))), ("up", ((0, 0, "a", 1), (0, 1, "a", -1)))))
MIXED = Book("abc", (
    ("knight", ((-1, -2, "a", 3), (0, 0, "a", -1), (0, 0, "b", 7), (1, 2, "c", 2))),
    ("swap", ((0, 0, "a", -1), (0, 0, "b", 1))),
    ("up", ((0, 0, "b", 1), (0, 1, "b", -1))),
))
ONE = Stand("a", ((0, 0, "a", 1),))
NONE = Stand("a")


def dots(*numbers):
    """The stand with these numbers at (0, 0), (1, 0) and so on."""
    return Stand("a", tuple((x, 0, "a", number) for x, number in enumerate(numbers) if number != 0))


def folded_by_words(stand, a, b):
    entries = []
    for x in range(a):
        for y in range(b):
            for kind in stand.kinds:
                number = sum(entry[3] for entry in stand.entries
                             if (entry[0] - x) % a == 0 and (entry[1] - y) % b == 0 and entry[2] == kind)
                if number != 0:
                    entries.append((x, y, kind, number))
    return Stand(stand.kinds, tuple(entries))


def changed_by_remainders(book, a, b, deeds):
    """The folded change of a script, where a loop is told by the remainders of its k modulo a * b."""
    size = a * b
    total = Stand(book.kinds)
    for first, one, two, last in deeds:
        if isinstance(first, str):
            total = total + book[first].moved((one, two)) * last
        else:
            inner = changed_by_remainders(book, a, b, last)
            for k in range(min(size, first)):
                often = (first - k + size - 1) // size
                total = total + inner.moved((k * one, k * two)) * often
    return folded_by_words(total, a, b)


def some_stand(source, kinds, far, big):
    numbers = {}
    for _ in range(source.randrange(10)):
        cell = (source.randrange(-far, far), source.randrange(-far, far), source.choice(kinds))
        numbers[cell] = source.choice((1, -1)) * source.randrange(1, big)
    return Stand(kinds, tuple(sorted((*cell, number) for cell, number in numbers.items())))


def some_script(source, book, deep, manies, far):
    items = []
    for _ in range(source.randrange(1, 4)):
        x, y = source.randrange(-far, far), source.randrange(-far, far)
        if deep > 0 and source.randrange(3) > 0:
            items.append((source.choice(manies), x, y, some_script(source, book, deep - 1, manies, far)))
        else:
            items.append((source.choice(book.names), x, y, source.randrange(-far, far)))
    return tuple(items)


class TestMaking(unittest.TestCase):
    def test_attributes(self):
        board = Board(BARS, 3, 2)
        self.assertIs(board.book, BARS)
        self.assertEqual((board.a, board.b), (3, 2))
        board = Board(b=1, a=4, book=MIXED)
        self.assertEqual((board.book, board.a, board.b), (MIXED, 4, 1))

    def test_equal_to_no_other_value(self):
        board = Board(BARS, 3, 2)
        for thing in (None, 0, (BARS, 3, 2), "board", BARS, ONE, []):
            self.assertFalse(board == thing)

    def test_defined_here(self):
        self.assertEqual(Board.__module__, "sheetmoves.boards")
        for name in ("__init__", "divisors", "free", "folded", "done", "alike", "order", "many", "tells"):
            self.assertIn(name, vars(boards.Board))
        self.assertIsInstance(vars(Board)["divisors"], property)
        self.assertIsInstance(vars(Board)["free"], property)


class TestFolded(unittest.TestCase):
    def test_worked_out(self):
        board = Board(BARS, 3, 2)
        stand = Stand("a", ((-1, -1, "a", 5), (0, 0, "a", 1), (2, 1, "a", 2), (3, 4, "a", -1), (4, 1, "a", 7)))
        found = board.folded(stand)
        self.assertIsInstance(found, Stand)
        self.assertEqual(found.entries, ((1, 1, "a", 7), (2, 1, "a", 7)))
        self.assertEqual(board.folded(NONE), NONE)
        self.assertEqual(Board(BARS, 1, 1).folded(Stand("a", LIE)).entries, ((0, 0, "a", 3),))
        self.assertEqual(Board(STEP, 2, 1).folded(STEP["step"]), NONE)

    def test_kinds_stay_apart(self):
        stand = Stand("abc", ((0, 0, "a", 1), (2, 0, "b", 1), (4, 0, "a", 1), (5, 3, "c", -4)))
        self.assertEqual(Board(MIXED, 2, 3).folded(stand).entries, ((0, 0, "a", 2), (0, 0, "b", 1), (1, 0, "c", -4)))

    def test_by_the_words(self):
        source = random.Random(5)
        for book, a, b in [(BARS, 1, 1), (BARS, 6, 4), (LEAP, 1, 7), (LEAP, 24, 1), (MIXED, 2, 4), (MIXED, 3, 1)]:
            board = Board(book, a, b)
            for far, big in ((5, 4), (30, 10 ** 40), (10 ** 9, 10 ** 40)):
                for _ in range(10):
                    stand = some_stand(source, book.kinds, far, big)
                    found = board.folded(stand)
                    self.assertEqual(found, folded_by_words(stand, a, b))
                    self.assertEqual(board.folded(found), found)
                    self.assertEqual(board.folded(stand.moved((5 * a, -7 * b))), found)
                    self.assertIs(board.alike(stand, found), True)

    def test_by_name(self):
        self.assertEqual(Board(BARS, 1, 1).folded(stand=ONE), ONE)


class TestDone(unittest.TestCase):
    def test_worked_out(self):
        board = Board(BARS, 4, 1)
        self.assertEqual(board.done(NONE, ()), NONE)
        self.assertEqual(board.done(ONE, (("lie", 3, 7, 2),)), dots(3, 2, 0, 2))
        self.assertEqual(board.done(ONE.moved((-1, 0)), (("stand", 3, 0, -1),)), dots(0, 0, 0, -2))
        self.assertEqual(board.done(NONE, ((6, 1, 0, (("lie", 0, 0, 1),)),)), dots(4, 5, 5, 4))
        self.assertEqual(board.done(NONE, ((3, -1, 0, (("lie", 0, 0, 1),)),)), dots(3, 2, 2, 2))

    def test_against_change(self):
        source = random.Random(6)
        for book, a, b in [(BARS, 3, 2), (LEAP, 5, 4), (STEP, 2, 1), (MIXED, 2, 4), (MIXED, 7, 1), (MIXED, 1, 1)]:
            board = Board(book, a, b)
            for deep in (0, 1, 2, 3):
                for _ in range(12):
                    deeds = some_script(source, book, deep, (0, 1, 2, 3, 5), 9)
                    stand = some_stand(source, book.kinds, 9, 9)
                    with self.subTest(deeds):
                        found = board.done(stand, deeds)
                        self.assertIsInstance(found, Stand)
                        self.assertEqual(found, board.folded(stand + change(book, deeds)))
                        self.assertEqual(board.done(stand, laid(book, deeds)), found)
                        self.assertEqual(board.done(found, undone(deeds)), board.folded(stand))
                        self.assertIs(board.alike(stand, found), True)

    def test_great_loops(self):
        source = random.Random(7)
        manies = (0, 1, 10 ** 30, 10 ** 30 - 1, 10 ** 29 + 7)
        for book, a, b in [(BARS, 6, 4), (LEAP, 5, 3), (MIXED, 2, 4), (MIXED, 1, 5)]:
            board = Board(book, a, b)
            for deep in (1, 2, 3):
                for _ in range(6):
                    deeds = some_script(source, book, deep, manies, 10 ** 9)
                    with self.subTest(deeds):
                        expected = changed_by_remainders(book, a, b, deeds)
                        self.assertEqual(board.done(Stand(book.kinds), deeds), expected)
                        stand = some_stand(source, book.kinds, 10 ** 9, 10 ** 40)
                        found = board.done(stand, deeds)
                        self.assertEqual(found, board.folded(stand + expected))
                        self.assertIs(board.alike(stand, found), True)
                        self.assertEqual(board.done(found, undone(deeds)), board.folded(stand))

    def test_loops_within_loops_multiply(self):
        many = 10 ** 30
        deeds = ((many, 0, 0, ((many, 0, 0, ((many, 0, 0, (("step", 0, 0, 1),)),)),)),)
        self.assertEqual(Board(STEP, 3, 1).done(NONE, deeds), dots(-many ** 3, 0, many ** 3))
        # A step goes two to the right, so a loop of steps goes all around many times.
        deeds = ((many, 2, 0, (("step", 0, 0, 1),)),)
        self.assertEqual(Board(STEP, 3, 1).done(NONE, deeds), dots(-1, 0, 1))
        deeds = ((many + 2, 2, 0, (("step", 0, 0, 1),)),)
        self.assertEqual(Board(STEP, 3, 1).done(NONE, deeds), NONE)

    def test_loops_that_do_nothing(self):
        many = 10 ** 30
        board = Board(BARS, 3, 3)
        for loop in [(many, 1, 1, ()), (many, 1, 1, ((many, 1, 1, ()),)), (0, 1, 1, (("lie", 0, 0, 1),)),
                     (many, 1, 0, ((0, 0, 0, (("lie", 0, 0, 1),)),)), (0, 0, 0, ((many, 1, 0, (("lie", 0, 0, 1),)),)),
                     (many, 1, 0, (("lie", 0, 0, 0),)), (many, 1, 0, (("lie", 0, 0, 1), ("lie", 0, 0, -1)))]:
            self.assertEqual(board.done(ONE, (loop,)), ONE)

    def test_two_hundred_items(self):
        deeds = tuple((10 ** 30, k, -k, (("lie", k, k, k),)) for k in range(100))
        board = Board(BARS, 6, 4)
        total = NONE
        for item in deeds:
            total = total + changed_by_remainders(BARS, 6, 4, (item,))
        self.assertEqual(board.done(NONE, deeds), total)

    def test_arguments_stay(self):
        board = Board(BARS, 2, 2)
        deeds = ((10 ** 30, 1, 0, (("lie", 0, 0, 1),)),)
        kept = repr(deeds)
        board.done(ONE, deeds)
        self.assertEqual(repr(deeds), kept)
        self.assertEqual(ONE.entries, ((0, 0, "a", 1),))
        self.assertEqual((board.book, board.a, board.b), (BARS, 2, 2))
        self.assertEqual(board.done(ONE, deeds), board.done(ONE, deeds))

    def test_by_name(self):
        self.assertEqual(Board(BARS, 1, 1).done(stand=ONE, deeds=()), ONE)


class TestAlike(unittest.TestCase):
    def test_worked_out(self):
        board = Board(STEP, 4, 1)
        self.assertIs(board.alike(ONE, ONE.moved((2, 0))), True)
        self.assertIs(board.alike(ONE, ONE.moved((-6, 5))), True)
        self.assertIs(board.alike(ONE, ONE.moved((1, 0))), False)
        self.assertIs(board.alike(ONE, NONE), False)
        # On a board with an odd side a stand can be stepped to each cell of its row.
        self.assertIs(Board(STEP, 3, 1).alike(ONE, ONE.moved((1, 0))), True)
        self.assertIs(Board(STEP, 3, 2).alike(ONE, ONE.moved((1, 1))), False)

    def test_if_one_leads_to_the_other(self):
        source = random.Random(8)
        for book, a, b in [(BARS, 3, 3), (BARS, 1, 1), (LEAP, 3, 3), (STEP, 6, 4), (NINES, 5, 2), (MIXED, 2, 4), (MIXED, 8, 1)]:
            board = Board(book, a, b)
            for _ in range(20):
                one = some_stand(source, book.kinds, 10 ** 9, 10 ** 40)
                other = one + change(book, some_script(source, book, 1, (0, 1, 3), 10 ** 9))
                self.assertIs(board.alike(one, other), True)
                self.assertIs(board.alike(other, one), True)
                self.assertIsNone(board.tells(one, other))
                self.assertEqual(board.order(other - one), 1)

    def test_rectangles_of_bars(self):
        # A rectangle is a sum of bars on all boards if three divides a side, and on the board of 3 x 3 otherwise not.
        for wide in range(1, 8):
            for high in range(1, 8):
                stand = Stand("a", tuple((x, y, "a", 1) for x in range(wide) for y in range(high)))
                self.assertIs(Board(BARS, 3, 3).alike(NONE, stand), wide % 3 == 0 or high % 3 == 0)

    def test_classes_go_to_sums(self):
        board = Board(LEAP, 3, 3)
        stands = [dots(k, m) + dots(n).moved((0, 1)) for k in range(-1, 3) for m in range(2) for n in range(2)]
        for one in stands:
            for other in stands:
                self.assertIs(board.alike(one, other), board.alike(one - other, NONE))
                self.assertIs(board.alike(one + ONE, other + ONE), board.alike(one, other))

    def test_by_name(self):
        self.assertIs(Board(BARS, 1, 1).alike(other=ONE, one=ONE), True)


class TestOrder(unittest.TestCase):
    def test_of_a_stand_alike_to_the_empty_one(self):
        for book, a, b in [(BARS, 1, 1), (BARS, 3, 3), (LEAP, 3, 3), (STEP, 2, 1), (MIXED, 2, 2)]:
            board = Board(book, a, b)
            self.assertEqual(board.order(Stand(book.kinds)), 1)
            for name in book.names:
                self.assertEqual(board.order(book[name].moved((-3, 7)) * 10 ** 40), 1)
        self.assertEqual(Board(LEAP, 1, 1).order(ONE), 1)

    def test_none(self):
        self.assertIsNone(Board(STEP, 1, 1).order(ONE))
        self.assertIsNone(Board(STEP, 2, 1).order(ONE - ONE.moved((1, 0))))
        self.assertIsNone(Board(BARS, 3, 3).order(ONE))
        self.assertIsNone(Board(BARS, 3, 3).order(ONE * 10 ** 40))

    def test_worked_out(self):
        self.assertEqual(Board(LEAP, 3, 3).order(ONE), 2)
        self.assertEqual(Board(LEAP, 3, 3).order(ONE * 2), 1)
        self.assertEqual(Board(BARS, 1, 1).order(ONE), 3)
        self.assertEqual(Board(BARS, 1, 1).order(ONE * 10), 3)
        self.assertEqual(Board(BARS, 1, 1).order(ONE * 12), 1)

    def test_great_ones(self):
        for a in (1, 2, 5, 23, 24):
            board = Board(NINES, a, 1)
            great = 9 ** a - 1
            self.assertEqual(board.order(ONE), great)
            self.assertEqual(board.order(ONE.moved((3, 8)) * -1), great)
            self.assertEqual(board.order(ONE * 4), great // 4)
            self.assertEqual(board.order(ONE * 8), great // 8)
            self.assertEqual(board.order(ONE * great), 1)
            self.assertEqual(board.order(dots(9, -1)), 1)

    def test_the_least_one(self):
        source = random.Random(9)
        for book, a, b in [(LEAP, 4, 2), (LEAP, 5, 2), (LEAP, 3, 6), (BARS, 2, 2), (BARS, 4, 5), (NINES, 2, 3), (MIXED, 1, 1), (MIXED, 1, 2)]:
            board = Board(book, a, b)
            empty = Stand(book.kinds)
            for _ in range(12):
                stand = some_stand(source, book.kinds, 6, 30)
                order = board.order(stand)
                if order is None:
                    self.assertFalse(any(board.alike(stand * n, empty) for n in range(1, 200)))
                    continue
                self.assertIs(board.alike(stand * order, empty), True)
                self.assertFalse(any(board.alike(stand * n, empty) for n in range(1, min(order, 300))))
                for prime in (2, 3, 5, 7, 11, 13):
                    if order % prime == 0:
                        self.assertIs(board.alike(stand * (order // prime), empty), False)

    def test_different_orders_in_one_sum(self):
        # On one cell two "a" are nothing, and so are three "b".
        book = Book("ab", (("three", ((0, 0, "b", 3),)), ("two", ((0, 0, "a", 2),))))
        board = Board(book, 1, 1)
        self.assertEqual(board.order(Stand("ab", ((0, 0, "a", 1),))), 2)
        self.assertEqual(board.order(Stand("ab", ((0, 0, "b", 1),))), 3)
        self.assertEqual(board.order(Stand("ab", ((0, 0, "a", 1), (0, 0, "b", 1)))), 6)
        # Here a sum has an order, though one of its parts has none.
        book = Book("ab", (("both", ((0, 0, "a", 5), (0, 0, "b", -5))),))
        self.assertIsNone(Board(book, 1, 1).order(Stand("ab", ((0, 0, "a", 1),))))
        self.assertEqual(Board(book, 1, 1).order(Stand("ab", ((0, 0, "a", 1), (0, 0, "b", -1)))), 5)

    def test_by_name(self):
        self.assertEqual(Board(BARS, 1, 1).order(stand=NONE), 1)


class TestOtherKinds(unittest.TestCase):
    def test_each_method(self):
        for book, wrong in [(BARS, Stand("b")), (BARS, Stand("ab")), (BARS, Stand("b", ((0, 0, "b", 1),))), (MIXED, Stand("ab")),
                            (MIXED, Stand("a", ((0, 0, "a", 1),))), (MIXED, Stand("abd"))]:
            board = Board(book, 2, 1)
            right = Stand(book.kinds)
            for called in [lambda: board.folded(wrong), lambda: board.done(wrong, ()), lambda: board.order(wrong),
                           lambda: board.done(wrong, ((10 ** 30, 1, 1, ((book.names[0], 0, 0, 1),)),)),
                           lambda: board.alike(wrong, right), lambda: board.alike(right, wrong), lambda: board.alike(wrong, wrong),
                           lambda: board.tells(wrong, right), lambda: board.tells(right, wrong), lambda: board.tells(wrong, wrong)]:
                with self.assertRaises(OtherKinds):
                    called()
            self.assertEqual(board.folded(right), right)
