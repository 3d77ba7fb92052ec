"""Promises [7] and [9]: change, laid, undone and within, for right scripts."""

import random
import unittest
from itertools import permutations

from sheetmoves.books import Book
from sheetmoves.scripts import change, is_laid, is_script, laid, undone, within
from sheetmoves.stands import Stand

LIE = ((0, 0, "a", 1), (1, 0, "a", 1), (2, 0, "a", 1))
UP = ((0, 0, "a", 1), (0, 1, "a", 1), (0, 2, "a", 1))
BARS = Book("a", (("lie", LIE), ("stand", UP)))
MIXED = Book("abc", (
    ("far", ((10 ** 9, -10 ** 9, "c", -9),)),
    ("knight", ((-1, -2, "a", 3), (0, 0, "a", -1), (0, 0, "b", 7), (1, 2, "c", 2))),
    ("swap", ((0, 0, "a", -1), (0, 0, "b", 1))),
    ("up", ((0, 0, "b", 1), (0, 1, "b", -1))),
))
BOOKS = (BARS, MIXED)
STEPS = [(dx, dy) for dx in (-2, 0, 1) for dy in (-1, 0, 3)]


def some_script(source, book, deep):
    """A small script with loops at most so deep."""
    items = []
    for _ in range(source.randrange(4)):
        if deep > 0 and source.randrange(2) == 0:
            items.append((source.randrange(4), *source.choice(STEPS), some_script(source, book, deep - 1)))
        else:
            items.append((source.choice(book.names), source.randrange(-3, 4), source.randrange(-3, 4),
                          source.randrange(-2, 3)))
    return tuple(items)


def some_scripts(book, many=60):
    source = random.Random(len(book.names))
    return [some_script(source, book, deep) for deep in (0, 1, 2, 3) for _ in range(many)]


def written_out(deeds, by=(0, 0)):
    """The deeds of a script, one after the other, without loops."""
    out = []
    for first, one, two, last in deeds:
        if isinstance(first, str):
            out.append((first, one + by[0], two + by[1], last))
        else:
            for k in range(first):
                out.extend(written_out(last, (by[0] + k * one, by[1] + k * two)))
    return out


def done_singly(book, deeds):
    """What a script adds, deed after deed."""
    stand = Stand(book.kinds)
    for name, x, y, times in written_out(deeds):
        stand = stand + book[name].moved((x, y)) * times
    return stand


def turned(deeds):
    """A script with all places and steps turned by a quarter."""
    return tuple((first, -y, x, last if isinstance(first, str) else turned(last)) for first, x, y, last in deeds)


def mirrored(deeds):
    return tuple((first, y, x, last if isinstance(first, str) else mirrored(last)) for first, x, y, last in deeds)


class TestChange(unittest.TestCase):
    def test_without_deeds(self):
        for deeds in [(), ((3, 1, 1, ()),), (("lie", 0, 0, 0),), ((0, 0, 0, (("lie", 0, 0, 1),)),)]:
            found = change(BARS, deeds)
            self.assertIsInstance(found, Stand)
            self.assertEqual(found, Stand("a"))
        self.assertEqual(change(MIXED, ()).kinds, "abc")

    def test_single_deeds(self):
        self.assertEqual(change(BARS, (("lie", 0, 0, 1),)).entries, LIE)
        self.assertEqual(change(BARS, (("stand", 4, -7, -2),)).entries, ((4, -7, "a", -2), (4, -6, "a", -2), (4, -5, "a", -2)))
        self.assertEqual(change(BARS, (("lie", 10 ** 9, -10 ** 9, 10 ** 9),)),
                         Stand("a", LIE).moved((10 ** 9, -10 ** 9)) * 10 ** 9)

    def test_worked_out(self):
        rectangle = Stand("a", tuple((x, y, "a", 1) for x in range(5) for y in range(3)))
        self.assertEqual(change(BARS, ((5, 1, 0, (("stand", 0, 0, 1),)),)), rectangle)
        self.assertEqual(change(BARS, ((2, 10, 0, ((3, 0, 1, (("lie", 0, 0, 1),)),)),)),
                         Stand("a", tuple((x + far, y, "a", 1) for far in (0, 10) for x in range(3) for y in range(3))))
        self.assertEqual(change(BARS, (("lie", 0, 0, 1), ("lie", 1, 0, -1))).entries, ((0, 0, "a", 1), (3, 0, "a", -1)))

    def test_against_deed_after_deed(self):
        for book in BOOKS:
            for deeds in some_scripts(book):
                with self.subTest(deeds):
                    found = change(book, deeds)
                    self.assertEqual(found, done_singly(book, deeds))
                    self.assertEqual(found.kinds, book.kinds)

    def test_loops_of_two_thousand(self):
        self.assertEqual(change(BARS, ((2000, 3, 0, (("lie", 0, 0, 2),)),)),
                         Stand("a", tuple((x, 0, "a", 2) for x in range(6000))))
        deeds = ((10, 30, 0, ((20, 0, 3, ((10, 3, 0, (("lie", 0, 0, 1),)),)),)),)
        cells = sorted((x + 30 * far, 3 * y) for far in range(10) for x in range(30) for y in range(20))
        self.assertEqual(change(BARS, deeds), Stand("a", tuple((x, y, "a", 1) for x, y in cells)))
        self.assertEqual(change(BARS, ((2000, 0, 0, (("lie", 0, 0, 10 ** 9),)),)), Stand("a", LIE) * (2000 * 10 ** 9))

    def test_loops_that_do_nothing(self):
        many = 10 ** 9
        empty = (many, 1, 2, ())
        for loop in [empty, (many, 0, 0, (empty,)), (many, 0, 0, (empty, (many, 1, 1, (empty, empty)))),
                     (many, 0, 0, ((0, 0, 0, (("lie", 0, 0, 1),)),)), (many, 1, 1, ((many, 1, 1, ((0, 1, 1, (("lie", 0, 0, 1),)),)),)),
                     (0, 0, 0, ((many, 0, 0, ((many, 0, 0, (("lie", 0, 0, 1),)),)),))]:
            with self.subTest(loop):
                self.assertEqual(change(BARS, (loop,)), Stand("a"))
                self.assertEqual(laid(BARS, (loop,)), ())
                deeds = (loop, ("lie", 0, 0, 2), loop, (3, 3, 0, (loop, ("lie", 0, 0, 1))))
                self.assertEqual(laid(BARS, deeds), (("lie", 0, 0, 3), ("lie", 3, 0, 1), ("lie", 6, 0, 1)))

    def test_turned_and_mirrored(self):
        for book in BOOKS:
            for deeds in some_scripts(book, 20):
                stand = change(book, deeds)
                entries = tuple(sorted((-y, x, kind, number) for x, y, kind, number in stand.entries))
                self.assertEqual(change(book.turned(), turned(deeds)).entries, entries)
                entries = tuple(sorted((y, x, kind, number) for x, y, kind, number in stand.entries))
                self.assertEqual(change(book.mirrored(), mirrored(deeds)).entries, entries)

    def test_by_name(self):
        self.assertEqual(change(book=BARS, deeds=(("lie", 0, 0, 1),)).entries, LIE)


class TestLaid(unittest.TestCase):
    def test_worked_out(self):
        self.assertEqual(laid(BARS, ()), ())
        self.assertEqual(laid(BARS, (("stand", 0, 0, 1), ("lie", 1, 0, 1), ("lie", 0, 5, -2))),
                         (("lie", 0, 5, -2), ("lie", 1, 0, 1), ("stand", 0, 0, 1)))
        self.assertEqual(laid(BARS, ((3, -1, 2, (("lie", 0, 0, 4),)),)),
                         (("lie", -2, 4, 4), ("lie", -1, 2, 4), ("lie", 0, 0, 4)))
        self.assertEqual(laid(BARS, ((5, 0, 0, (("lie", 1, 1, 4), ("lie", 1, 1, -1))),)), (("lie", 1, 1, 15),))

    def test_times_0(self):
        self.assertEqual(laid(BARS, (("lie", 0, 0, 0), ("lie", 1, 0, 1))), (("lie", 1, 0, 1),))
        self.assertEqual(laid(BARS, (("lie", 0, 0, 3), ("lie", 1, 0, 1), ("lie", 0, 0, -3))), (("lie", 1, 0, 1),))
        self.assertEqual(laid(BARS, ((2, 1, 0, (("lie", 0, 0, 1), ("lie", 1, 0, -1))),)), (("lie", 0, 0, 1), ("lie", 2, 0, -1)))

    def test_not_told_by_the_change_alone(self):
        # Three bars lying and three bars standing fill one square, but the moves are not made at the same places.
        lying = tuple(("lie", 0, k, 1) for k in range(3))
        standing = tuple(("stand", k, 0, 1) for k in range(3))
        self.assertEqual(change(BARS, lying), change(BARS, standing))
        self.assertEqual(laid(BARS, lying), lying)
        self.assertEqual(laid(BARS, standing), standing)

    def test_laid_scripts_stay(self):
        for book in BOOKS:
            for deeds in some_scripts(book):
                with self.subTest(deeds):
                    found = laid(book, deeds)
                    self.assertIsInstance(found, tuple)
                    self.assertIs(is_laid(book, found), True)
                    self.assertIs(is_script(book, found), True)
                    self.assertEqual(laid(book, found), found)
                    self.assertEqual(change(book, found), change(book, deeds))

    def test_loops_written_out(self):
        for book in BOOKS:
            for deeds in some_scripts(book):
                times = {}
                for name, x, y, many in written_out(deeds):
                    times[name, x, y] = times.get((name, x, y), 0) + many
                expected = tuple(sorted((*place, many) for place, many in times.items() if many != 0))
                self.assertEqual(laid(book, deeds), expected)
                self.assertEqual(laid(book, tuple(written_out(deeds))), expected)

    def test_another_order(self):
        deeds = (("lie", 0, 0, 1), (2, 1, 1, (("stand", 0, 0, 1),)), ("lie", 0, 0, 2), ("stand", 1, 1, -1))
        expected = (("lie", 0, 0, 3), ("stand", 0, 0, 1))
        for order in permutations(deeds):
            self.assertEqual(laid(BARS, order), expected)

    def test_deeds_in_two_parts(self):
        for times in range(-4, 5):
            for part in range(-4, 5):
                self.assertEqual(laid(BARS, (("lie", 2, 3, part), ("lie", 2, 3, times - part))),
                                 laid(BARS, (("lie", 2, 3, times),)))

    def test_arguments_stay(self):
        deeds = ((3, 1, 1, (("lie", 0, 0, 1), (0, 0, 0, ()))), ("lie", 0, 0, 0))
        kept = repr(deeds)
        laid(BARS, deeds)
        change(BARS, deeds)
        undone(deeds)
        self.assertEqual(repr(deeds), kept)
        self.assertEqual(BARS, Book("a", (("lie", LIE), ("stand", UP))))

    def test_by_name(self):
        self.assertEqual(laid(book=BARS, deeds=(("lie", 0, 0, 0),)), ())


class TestUndone(unittest.TestCase):
    def test_takes_back(self):
        for book in BOOKS:
            for deeds in some_scripts(book):
                with self.subTest(deeds):
                    found = undone(deeds)
                    self.assertIs(is_script(book, found), True)
                    self.assertEqual(change(book, found), change(book, deeds) * -1)
                    self.assertEqual(laid(book, deeds + found), ())
                    self.assertEqual(laid(book, found + deeds), ())

    def test_small_ones(self):
        self.assertEqual(undone(()), ())
        self.assertEqual(laid(BARS, undone((("lie", 1, 2, 3),))), (("lie", 1, 2, -3),))

    def test_great_loops(self):
        deeds = ((10 ** 9, 0, 0, ((10 ** 9, 1, 1, ()),)), (2000, 1, 0, (("lie", 0, 0, 1),)))
        # A difference of two long tuples takes long to be told, so only whether they are equal is asked.
        self.assertTrue(laid(BARS, undone(deeds)) == tuple(("lie", k, 0, -1) for k in range(2000)))

    def test_great_loops_stay_short(self):
        deeds = ((10 ** 30, 1, 0, ((10 ** 30, 0, 1, ((10 ** 30, 1, 1, (("lie", 0, 0, 1),)),)),)),)
        self.assertIs(is_script(BARS, undone(deeds)), True)
        self.assertLess(len(repr(undone(deeds))), 1000)

    def test_by_name(self):
        self.assertEqual(undone(deeds=()), ())


class TestWithin(unittest.TestCase):
    def test_single_deeds(self):
        deeds = (("lie", 4, -2, -1),)
        self.assertIs(within(BARS, deeds, (4, -2, 6, -2)), True)
        for frame in [(5, -2, 6, -2), (4, -1, 6, -2), (4, -2, 5, -2), (4, -2, 6, -3), (4, -1, 6, 5), (7, -2, 9, -2)]:
            self.assertIs(within(BARS, deeds, frame), False)
        self.assertIs(within(BARS, (("stand", 4, -2, 5),), (4, -2, 4, 0)), True)
        self.assertIs(within(BARS, (("stand", 4, -2, 5),), (4, -2, 6, -2)), False)

    def test_entries_off_the_place(self):
        # The move "far" has its entry far from the place where it is made.
        deeds = (("far", -10 ** 9, 10 ** 9, 1),)
        self.assertIs(within(MIXED, deeds, (0, 0, 0, 0)), True)
        self.assertIs(within(MIXED, deeds, (-10 ** 9, 10 ** 9, -10 ** 9, 10 ** 9)), False)
        self.assertIs(within(MIXED, (("knight", 0, 0, 1),), (-1, -2, 1, 2)), True)
        self.assertIs(within(MIXED, (("knight", 0, 0, 1),), (0, 0, 1, 2)), False)

    def test_the_least_rectangle(self):
        for book in BOOKS:
            for deeds in some_scripts(book):
                deeds = laid(book, deeds)
                cells = [(x + right, y + up) for name, x, y, _ in deeds for right, up, _, _ in book[name].entries]
                if not cells:
                    continue
                with self.subTest(deeds):
                    left, right = min(x for x, _ in cells), max(x for x, _ in cells)
                    low, high = min(y for _, y in cells), max(y for _, y in cells)
                    self.assertIs(within(book, deeds, (left, low, right, high)), True)
                    self.assertIs(within(book, deeds, (left - 1, low - 2, right + 3, high + 4)), True)
                    self.assertIs(within(book, deeds, (left + 1, low, right, high)), False)
                    self.assertIs(within(book, deeds, (left, low + 1, right, high)), False)
                    self.assertIs(within(book, deeds, (left, low, right - 1, high)), False)
                    self.assertIs(within(book, deeds, (left, low, right, high - 1)), False)

    def test_all_deeds_count(self):
        # The entries of these two cancel one another in the change, but not in the frame.
        deeds = (("lie", 0, 0, 1), ("lie", 0, 1, 1), ("lie", 0, 2, 1), ("stand", 0, 0, -1), ("stand", 1, 0, -1), ("stand", 2, 0, -1))
        self.assertEqual(change(BARS, deeds), Stand("a"))
        self.assertIs(within(BARS, deeds, (0, 0, 2, 2)), True)
        self.assertIs(within(BARS, deeds, (0, 0, 2, 1)), False)
        for far in [("lie", 9, 0, 1), ("lie", -9, 0, 1), ("lie", 0, 9, 1), ("lie", 0, -9, 1)]:
            self.assertIs(within(BARS, tuple(sorted((*deeds[1:], far))), (0, 0, 2, 2)), False)

    def test_without_deeds(self):
        for frame in [(0, 0, 0, 0), (-5, -5, 5, 5), (3, 3, 2, 2), (10 ** 9, 0, 10 ** 9, 0)]:
            self.assertIs(within(BARS, (), frame), True)

    def test_by_name(self):
        self.assertIs(within(book=BARS, deeds=(), frame=(0, 0, 0, 0)), True)
