"""Promise [10]: is_colouring, weight, is_of and moved_colouring."""

import random
import unittest
from itertools import product

from sheetmoves import colourings
from sheetmoves.books import Book
from sheetmoves.colourings import is_colouring, is_of, moved_colouring, weight
from sheetmoves.stands import Stand

LIE = ((0, 0, "a", 1), (1, 0, "a", 1), (2, 0, "a", 1))
UP = ((0, 0, "a", 1), (0, 1, "a", 1), (0, 2, "a", 1))
BARS = Book("a", (("lie", LIE), ("stand", UP)))
FLIP = Book("ab", (("flip", ((-1, 0, "a", 1), (0, 0, "b", -1))), ("hop", ((0, 0, "a", -1), (0, 2, "a", 1)))))
ONE = Stand("a", ((0, 0, "a", 1),))
THREES = (3, 3, 1, (((0, 1, 2),),))
# Three columns and two rows for each of two kinds.
WIDE = (10, 3, 2, (((0, 1, 2), (3, 4, 5)), ((6, 7, 8), (9, 0, 1))))
HUGE = 10 ** 399


def any_values():
    return [
        None, True, False, 0, 1, 2, -1, HUGE, "", "a", "3", "x" * 20000, (), (3,), (3, 3), (3, 3, 1), [], {}, [[[()]]],
        list(THREES), {3: THREES}, THREES[3], Stand("a", LIE), BARS, (THREES,), (3, 3, 1, None), (3, 3, 1, ONE),
    ]


def weight_by_words(colouring, stand):
    """The weight as the document tells it."""
    m, a, b, tables = colouring
    total = 0
    for x, y, kind, number in stand.entries:
        total += number * tables[stand.kinds.index(kind)][y % b][x % a]
    return total % m


def some_colouring(source, kinds, sides, m):
    a, b = sides
    return m, a, b, tuple(tuple(tuple(source.randrange(m) for _ in range(a)) for _ in range(b)) for _ in kinds)


def some_stand(source, kinds, far, big):
    numbers = {}
    for _ in range(source.randrange(12)):
        cell = (source.randrange(-far, far), source.randrange(-far, far), source.choice(kinds))
        numbers[cell] = source.choice((1, -1)) * source.randrange(1, big)
    return Stand(kinds, tuple(sorted((*cell, number) for cell, number in numbers.items())))


def is_of_by_words(book, colouring):
    """Whether every move weighs 0 at each place of a rectangle that is wider than need be."""
    _, a, b, _ = colouring
    return all(weight_by_words(colouring, book[name].moved((x, y))) == 0
               for name in book.names for x in range(-1, a + 1) for y in range(-1, b + 1))


class TestIsColouring(unittest.TestCase):
    def test_right_ones(self):
        for kinds, thing in [
            ("a", THREES), ("ab", WIDE), ("z", (2, 1, 1, (((0,),),))), ("z", (2, 1, 1, (((1,),),))),
            ("abc", (7, 1, 2, (((0,), (6,)), ((1,), (5,)), ((2,), (3,))))), ("a", (HUGE, 1, 1, (((HUGE - 1,),),))),
            ("a", (2, 400, 1, ((tuple([1] * 400),),))), ("a", (2, 1, 400, (tuple([(1,)] * 400),))),
        ]:
            with self.subTest(thing):
                self.assertIs(is_colouring(kinds, thing), True)

    def test_m(self):
        for m in (1, 0, -1, -2, -HUGE, True, False, None, "2", (2,), [2]):
            self.assertIs(is_colouring("a", (m, 1, 1, (((0,),),))), False)

    def test_sides(self):
        for side in (0, -1, -3, 2, True, False, None, "1", (1,), HUGE):
            with self.subTest(side):
                self.assertIs(is_colouring("a", (2, side, 1, (((0,),),))), False)
                self.assertIs(is_colouring("a", (2, 1, side, (((0,),),))), False)
        self.assertIs(is_colouring("a", (2, 0, 1, (((),),))), False)
        self.assertIs(is_colouring("a", (2, 1, 0, ((),))), False)
        self.assertIs(is_colouring("a", (2, 0, 0, ((),))), False)
        # Sides that are told the other way round.
        self.assertIs(is_colouring("a", (3, 1, 3, (((0, 1, 2),),))), False)
        self.assertIs(is_colouring("a", (3, 3, 1, (((0,), (1,), (2,)),))), False)

    def test_rows_and_tables(self):
        for tables in [(), (THREES[3][0],) * 2, (((0, 1, 2), (0, 1, 2)),), ((),), (((0, 1),),), (((0, 1, 2, 0),),),
                       (((),),), ((0, 1, 2),), (0, 1, 2), 0, None, "", ("012",), (("012",),)]:
            with self.subTest(tables):
                self.assertIs(is_colouring("a", (3, 3, 1, tables)), False)
        for tables in [(), WIDE[3][:1], (*WIDE[3], WIDE[3][0]), (WIDE[3][0], WIDE[3][1][:1]), (WIDE[3][0], ()),
                       (WIDE[3][0], ((6, 7, 8), (9, 0))), (WIDE[3][0], ((6, 7), (8, 9), (0, 1)))]:
            with self.subTest(tables):
                self.assertIs(is_colouring("ab", (10, 3, 2, tables)), False)

    def test_as_many_tables_as_kinds(self):
        for kinds, many in product(("a", "ab", "abc"), range(5)):
            self.assertIs(is_colouring(kinds, (2, 1, 1, (((1,),),) * many)), many == len(kinds))

    def test_numbers(self):
        for m in (2, 3, 10):
            for number in range(-12, 13):
                self.assertIs(is_colouring("a", (m, 2, 1, (((0, number),),))), 0 <= number < m)
        for number in (True, False, None, "0", (0,), [0], HUGE, -HUGE):
            self.assertIs(is_colouring("a", (3, 3, 1, (((0, number, 0),),))), False)

    def test_lists(self):
        for thing in [list(THREES), (3, 3, 1, [((0, 1, 2),)]), (3, 3, 1, ([(0, 1, 2)],)), (3, 3, 1, (([0, 1, 2],),))]:
            self.assertIs(is_colouring("a", thing), False)

    def test_lengths(self):
        self.assertIs(is_colouring("a", THREES[:3]), False)
        self.assertIs(is_colouring("a", (*THREES, 0)), False)
        self.assertIs(is_colouring("a", (*THREES, ())), False)

    def test_any_values(self):
        for thing in any_values():
            with self.subTest(thing):
                self.assertIs(is_colouring("a", thing), False)
                self.assertIs(is_of(BARS, thing), False)

    def test_by_name(self):
        self.assertIs(is_colouring(kinds="a", thing=THREES), True)
        self.assertIs(is_of(book=BARS, thing=THREES), True)

    def test_defined_here(self):
        for name in ("is_colouring", "weight", "weight_far", "is_of", "moved_colouring"):
            self.assertEqual(getattr(colourings, name).__module__, "sheetmoves.colourings")


class TestWeight(unittest.TestCase):
    def test_examples(self):
        self.assertEqual(weight(THREES, ONE), 0)
        self.assertEqual(weight(THREES, ONE.moved((1, 0))), 1)
        self.assertEqual(weight(THREES, Stand("a", LIE)), 0)
        self.assertEqual(weight(THREES, Stand("a", UP).moved((1, 0))), 0)

    def test_single_entries(self):
        for x, y, number in product(range(-7, 8), range(-5, 6), (-11, -1, 1, 2, 10, 23)):
            self.assertEqual(weight(WIDE, Stand("ab", ((x, y, "a", number),))), number * (3 * (y % 2) + x % 3) % 10)
            self.assertEqual(weight(WIDE, Stand("ab", ((x, y, "b", number),))), number * (6 + 3 * (y % 2) + x % 3) % 10)

    def test_other_letters(self):
        self.assertEqual(weight(WIDE, Stand("xz", ((0, 0, "z", 1), (1, 1, "x", 1)))), 0)
        self.assertEqual(weight(WIDE, Stand("xz", ((0, 0, "z", 1), (1, 1, "x", 2)))), 4)

    def test_empty(self):
        self.assertEqual(weight(WIDE, Stand("ab")), 0)

    def test_by_the_words(self):
        source = random.Random(1)
        for kinds in ("a", "bc", "xyz"):
            for _ in range(40):
                sides = (source.randrange(1, 6), source.randrange(1, 6))
                colouring = some_colouring(source, kinds, sides, source.choice((2, 3, 4, 9, 10 ** 40)))
                for far, big in ((4, 5), (10 ** 9, 10 ** 40)):
                    stand = some_stand(source, kinds, far, big)
                    found = weight(colouring, stand)
                    self.assertEqual(found, weight_by_words(colouring, stand))
                    self.assertTrue(0 <= found < colouring[0])

    def test_far_and_great(self):
        far = Stand("a", ((-10 ** 9, 10 ** 9, "a", 10 ** 40), (10 ** 9, -10 ** 9, "a", -1)))
        # 10 ** 9 is one more than a multiple of 3, so - 10 ** 9 is two more than one.
        self.assertEqual(weight(THREES, far), (2 * 10 ** 40 - 1) % 3)

    def test_by_name(self):
        self.assertEqual(weight(colouring=THREES, stand=ONE), 0)


class TestIsOf(unittest.TestCase):
    def test_examples(self):
        self.assertIs(is_of(BARS, THREES), True)
        self.assertIs(is_of(BARS, (2, 3, 3, (((1, 1, 0), (1, 0, 1), (0, 1, 1)),))), True)
        self.assertIs(is_of(BARS, (2, 1, 1, (((1,),),))), False)
        self.assertIs(is_of(BARS, (3, 1, 1, (((1,),),))), True)
        self.assertIs(is_of(BARS, (3, 1, 1, (((0,),),))), True)

    def test_all_small_ones(self):
        for book, m, a, b in [(BARS, 2, 3, 2), (BARS, 3, 2, 2), (BARS, 2, 3, 3), (FLIP, 3, 1, 3), (FLIP, 2, 2, 2), (FLIP, 4, 2, 1)]:
            cells = a * b
            right = 0
            for numbers in product(range(m), repeat=cells * len(book.kinds)):
                tables = tuple(tuple(numbers[k * cells + row * a:k * cells + (row + 1) * a] for row in range(b))
                               for k in range(len(book.kinds)))
                found = is_of(book, (m, a, b, tables))
                self.assertIs(found, is_of_by_words(book, (m, a, b, tables)))
                right += found
            self.assertGreater(right, 0)
            self.assertLess(right, m ** (cells * len(book.kinds)))

    def test_one_number_otherwise(self):
        right = (2, 3, 3, (((1, 1, 0), (1, 0, 1), (0, 1, 1)),))
        for y, x in product(range(3), range(3)):
            rows = [list(row) for row in right[3][0]]
            rows[y][x] = 1 - rows[y][x]
            self.assertIs(is_of(BARS, (2, 3, 3, (tuple(tuple(row) for row in rows),))), False)

    def test_one_number_of_a_move_otherwise(self):
        for at in range(3):
            for moves in [(("lie", LIE[:at] + ((at, 0, "a", 2),) + LIE[at + 1:]), ("stand", UP)),
                          (("lie", LIE), ("stand", UP[:at] + ((0, at, "a", 2),) + UP[at + 1:]))]:
                self.assertIs(is_of(Book("a", moves), THREES), False)

    def test_each_place_counts(self):
        # The move weighs 0 at each place but one column, or one row.
        dot = Book("a", (("dot", ((0, 0, "a", 1),)),))
        for at in range(4):
            row = tuple(int(x == at) for x in range(4))
            self.assertIs(is_of(dot, (2, 4, 1, ((row,),))), False)
            self.assertIs(is_of(dot, (2, 1, 4, (tuple((number,) for number in row),))), False)
        self.assertIs(is_of(dot, (2, 4, 1, (((0,) * 4,),))), True)

    def test_each_kind_counts(self):
        self.assertIs(is_of(FLIP, (5, 1, 1, (((1,),), ((1,),)))), True)
        self.assertIs(is_of(FLIP, (5, 1, 1, (((1,),), ((2,),)))), False)
        # "b" at a place weighs what "a" weighs one to the left of it.
        self.assertIs(is_of(FLIP, (5, 2, 1, (((1, 2),), ((2, 1),)))), True)
        self.assertIs(is_of(FLIP, (5, 2, 1, (((1, 2),), ((1, 2),)))), False)

    def test_of_other_kinds(self):
        self.assertIs(is_of(BARS, (3, 1, 1, (((0,),), ((0,),)))), False)
        self.assertIs(is_of(FLIP, (3, 1, 1, (((0,),),))), False)

    def test_wrong_forms(self):
        for thing in [(1, 1, 1, (((0,),),)), (3, 3, 1, (((0, 1, 5),),)), (3, 3, 1, (((0, 1, -1),),)), list(THREES),
                      (3, 3, 1, (([0, 1, 2],),)), (3, 1, 1, (((False,),),)), (True, 1, 1, (((0,),),)), (3, True, 1, (((0,),),))]:
            self.assertIs(is_of(BARS, thing), False)

    def test_moves_far_off(self):
        book = Book("a", (("leap", ((-10 ** 9, 10 ** 9, "a", -1), (3 - 10 ** 9, 10 ** 9, "a", 1))),))
        self.assertIs(is_of(book, THREES), True)
        self.assertIs(is_of(book, (3, 2, 1, (((0, 1),),))), False)

    def test_large_tables(self):
        row = tuple(range(3)) * 133
        self.assertIs(is_of(BARS, (3, 399, 1, ((row,),))), True)
        self.assertIs(is_of(BARS, (3, 399, 1, ((row[:-1] + (0,),),))), False)


class TestMoved(unittest.TestCase):
    def test_worked_out(self):
        self.assertEqual(moved_colouring(THREES, (1, 0)), (3, 3, 1, (((1, 2, 0),),)))
        self.assertEqual(moved_colouring(THREES, (-1, 5)), (3, 3, 1, (((2, 0, 1),),)))
        self.assertEqual(moved_colouring(WIDE, (1, 1)),
                         (10, 3, 2, (((4, 5, 3), (1, 2, 0)), ((0, 1, 9), (7, 8, 6)))))

    def test_weighs_moved_stands(self):
        source = random.Random(2)
        pairs = [(0, 0), (1, 0), (0, 1), (-1, -2), (3, -4), (10 ** 9, -10 ** 9), (-10 ** 40, 10 ** 40 + 1)]
        for kinds in ("a", "bc"):
            for _ in range(12):
                sides = (source.randrange(1, 6), source.randrange(1, 6))
                colouring = some_colouring(source, kinds, sides, source.choice((2, 5, 10 ** 40)))
                for by in pairs:
                    found = moved_colouring(colouring, by)
                    self.assertIs(is_colouring(kinds, found), True)
                    self.assertEqual(found[:3], colouring[:3])
                    for far, big in ((4, 5), (10 ** 9, 10 ** 40)):
                        stand = some_stand(source, kinds, far, big)
                        self.assertEqual(weight(found, stand), weight(colouring, stand.moved(by)))

    def test_still_of_the_book(self):
        for by in product(range(-3, 4), range(-3, 4)):
            self.assertIs(is_of(BARS, moved_colouring(THREES, by)), True)

    def test_by_name(self):
        self.assertEqual(moved_colouring(colouring=THREES, by=(3, 7)), THREES)
