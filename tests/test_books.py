"""Promise [6] and, but for texts, the interface of sheetmoves/books.py."""

import unittest
from itertools import combinations, product

from sheetmoves import books
from sheetmoves.books import Book, is_name
from sheetmoves.errors import BadBook, BadStand, Clash, OtherKinds, UnknownName
from sheetmoves.stands import Stand

LIE = ((0, 0, "a", 1), (1, 0, "a", 1), (2, 0, "a", 1))
UP = ((0, 0, "a", 1), (0, 1, "a", 1), (0, 2, "a", 1))
STEP = ((0, 0, "a", -1), (2, 0, "a", 1))
DOT = ((0, 0, "a", 1),)
BARS = Book("a", (("lie", LIE), ("stand", UP)))
ALL = Book("a", (("dot", DOT), ("lie", LIE), ("stand", UP), ("step", STEP)))
LETTERS = "abcdefghijklmnopqrstuvwxyz"


def any_values():
    return [
        None, True, False, 0, 1, -1, 10 ** 400, "", "a", "lie", "kinds a", " ", "\n", "x" * 20000,
        (), ("a",), ("lie",), ("lie", LIE), (("lie", LIE),), LIE, [], ["lie"], {}, {"lie": LIE}, [[[()]]],
        Stand("a"), Stand("a", DOT), Book("z", (("lie", ((0, 0, "z", 1),)),)),
    ]


class TestNames(unittest.TestCase):
    def test_right_ones(self):
        for name in [*LETTERS, "lie", "stand", "zz", "ba", "aaaaaaaa", "abcdefgh", "zyxwvuts", "kind", "kindsa",
                     "akinds", "moves", "remove", "mov", "selfs", "myself", "sel", "names", "book", "a" * 7]:
            with self.subTest(name):
                self.assertIs(is_name(name), True)

    def test_the_three_words(self):
        for name in ("kinds", "move", "self"):
            with self.subTest(name):
                self.assertIs(is_name(name), False)

    def test_lengths(self):
        for many in range(12):
            self.assertIs(is_name("q" * many), 1 <= many <= 8)
        self.assertIs(is_name("abcdefghi"), False)
        self.assertIs(is_name("q" * 20000), False)

    def test_wrong_strings(self):
        for name in ["", " ", "\n", "a b", " a", "a ", "a\n", "\na", "A", "Lie", "liE", "LIE", "lie1", "1", "1lie", "l-e",
                     "l_e", "_", "`", "{", "@", "[", "lie.", "Kinds", "~"]:
            with self.subTest(name):
                self.assertIs(is_name(name), False)

    def test_no_strings(self):
        for thing in [*any_values(), ["a"], ("a",), {"a": 1}, [["lie"]]]:
            if not isinstance(thing, str):
                with self.subTest(thing):
                    self.assertIs(is_name(thing), False)

    def test_by_name(self):
        self.assertIs(is_name(thing="lie"), True)
        self.assertIs(is_name(thing=["lie"]), False)

    def test_defined_here(self):
        self.assertEqual(is_name.__module__, "sheetmoves.books")
        self.assertEqual(Book.__module__, "sheetmoves.books")
        for name in ("__init__", "names", "__getitem__", "__len__", "__eq__", "__or__", "without", "renamed",
                     "turned", "mirrored", "__str__", "read"):
            self.assertIn(name, vars(books.Book))


class TestMaking(unittest.TestCase):
    def assert_bad(self, part, kinds, moves):
        """The part is the very value; strings are told by what they are."""
        with self.assertRaises(BadBook) as caught:
            Book(kinds, moves)
        if isinstance(part, str):
            self.assertEqual(caught.exception.part, part)
        else:
            self.assertIs(caught.exception.part, part)

    def test_attributes(self):
        moves = (("lie", LIE), ("stand", UP))
        for book in (Book("a", moves), Book(moves=moves, kinds="a"), Book("a", moves=moves)):
            self.assertEqual((book.kinds, book.moves), ("a", moves))

    def test_one_move_of_one_entry(self):
        self.assertEqual(Book("abc", (("x", ((-5, 7, "c", -9),)),)).moves, (("x", ((-5, 7, "c", -9),)),))

    def test_kinds_come_first(self):
        for kinds in [*any_values(), "ba", "aa", "abcd", "A", ["a"]]:
            if kinds != "a":
                with self.subTest(kinds):
                    self.assert_bad("kinds", kinds, (("lie", LIE),))
                    self.assert_bad("kinds", kinds, ())
                    self.assert_bad("kinds", kinds, None)
                    self.assert_bad("kinds", kinds, (5,))

    def test_moves_that_are_no_tuple_or_empty(self):
        for moves in any_values():
            if not isinstance(moves, tuple):
                with self.subTest(moves):
                    self.assert_bad("moves", "a", moves)
        for moves in ((), [("lie", LIE)], [5], {"lie": LIE}, (("lie", LIE),)[:0]):
            self.assert_bad("moves", "a", moves)

    def test_items_of_another_form(self):
        for item in [(), ("lie",), ("lie", LIE, LIE), (LIE, "lie"), ["lie", LIE], [], {"lie": LIE}, "lie", "li", None, 0,
                     True, LIE, ("lie", ("lie", LIE)), Stand("a", LIE), BARS, {0: "lie", 1: LIE}]:
            with self.subTest(item):
                self.assert_bad(item, "a", (item,))

    def test_items_with_another_name(self):
        for name in ["", "kinds", "move", "self", "abcdefghi", "Lie", "lie ", "l e", "1", None, True, 0, ("lie",), ["lie"],
                     {}, Stand("a")]:
            item = (name, LIE)
            with self.subTest(name):
                self.assert_bad(item, "a", (item,))

    def test_items_with_other_entries(self):
        for entries in [(), [], list(LIE), None, 0, True, "", "lie", {}, {(0, 0, "a", 1): 1}, Stand("a", LIE), DOT[0],
                        (DOT[0], None), (DOT,), ([0, 0, "a", 1],), ((0, 0, "a"),), ((0, 0, "a", 1, 1),),
                        ((0, 0, "a", 0),), ((0, 0, "b", 1),), ((0, 0, "", 1),), ((0, 0, "aa", 1),), ((True, 0, "a", 1),),
                        ((0, False, "a", 1),), ((0, 0, "a", True),), ((None, 0, "a", 1),), ((0, 0, ["a"], 1),)]:
            item = ("lie", entries)
            with self.subTest(entries):
                self.assert_bad(item, "a", (item,))
                self.assert_bad(item, "a", (("dot", DOT), item))

    def test_items_with_entries_of_other_kinds(self):
        for entries in (((0, 0, "c", 1),), ((0, 0, "a", 1), (0, 0, "c", 1)), ((0, 0, "ab", 1),), ((0, 0, "", 1),)):
            item = ("lie", entries)
            self.assert_bad(item, "ab", (item,))

    def test_items_whose_entries_do_not_ascend(self):
        for entries in [((1, 0, "a", 1), (0, 0, "a", 1)), ((0, 1, "a", 1), (0, 0, "a", 1)),
                        ((0, 0, "b", 1), (0, 0, "a", 1)), ((0, 0, "a", 1), (0, 0, "a", 1)),
                        ((0, 0, "a", 1), (0, 0, "a", 2)), ((0, 0, "a", 2), (0, 0, "a", 1)),
                        ((10, 0, "a", 1), (9, 0, "a", 1)), ((-9, 0, "a", 1), (-10, 0, "a", 1))]:
            item = ("lie", entries)
            with self.subTest(entries):
                self.assert_bad(item, "ab", (item,))

    def test_the_first_wrong_item_is_told(self):
        one, other = ("lie", ()), ["lie", LIE]
        self.assert_bad(one, "a", (("dot", DOT), one, other))
        self.assert_bad(other, "a", (("dot", DOT), other, one))

    def test_a_wrong_item_comes_before_the_order(self):
        item = ("zzz", ((0, 0, "a", 0),))
        self.assert_bad(item, "a", (("lie", LIE), ("dot", DOT), item))
        self.assert_bad(item, "a", (("lie", LIE), ("lie", LIE), item))

    def test_order(self):
        for moves in [
            (("lie", LIE), ("dot", DOT)),
            (("lie", LIE), ("lie", LIE)),
            (("lie", DOT), ("lie", LIE)),
            (("lie", LIE), ("lie", DOT)),
            (("a", DOT), ("c", DOT), ("b", DOT)),
            (("a", DOT), ("b", DOT), ("b", LIE), ("c", DOT)),
            (("aa", DOT), ("a", DOT)),
            (("b", DOT), ("ab", DOT)),
            (("a", DOT), ("b", DOT), ("a", DOT)),
        ]:
            with self.subTest(moves):
                self.assert_bad("order", "a", moves)

    def test_right_orders(self):
        for names in [("a", "aa", "ab", "b"), ("abcdefgh", "b"), ("lie", "lied")]:
            moves = tuple((name, DOT) for name in names)
            self.assertEqual(Book("a", moves).names, names)

    def test_other_errors_are_not_raised(self):
        with self.assertRaises(BadBook) as caught:
            Book("a", (("lie", ((0, 0, "a", 0),)),))
        self.assertNotIsInstance(caught.exception, BadStand)

    def test_beyond_the_limits(self):
        entries = tuple((x, -x * 10 ** 100, "a", 10 ** 399) for x in range(-50, 50))
        moves = tuple((one + other, entries) for one, other in product("abcdefghij", repeat=2))
        book = Book("a", moves)
        self.assertEqual((book.moves, len(book)), (moves, 100))
        self.assertEqual(book["jj"], Stand("a", entries))
        self.assertEqual(book, Book("a", tuple(list(moves))))
        self.assertNotEqual(book, Book("a", moves[1:]))


class TestAsking(unittest.TestCase):
    def test_names(self):
        self.assertEqual(BARS.names, ("lie", "stand"))
        self.assertEqual(ALL.names, ("dot", "lie", "stand", "step"))
        self.assertIsInstance(BARS.names, tuple)

    def test_moves(self):
        for name, entries in ALL.moves:
            found = ALL[name]
            self.assertIsInstance(found, Stand)
            self.assertEqual((found.kinds, found.entries), ("a", entries))
        self.assertEqual(Book("abc", (("x", ((1, 1, "b", 2),)),))["x"], Stand("abc", ((1, 1, "b", 2),)))

    def test_any_other_value_is_no_name_of_a_move(self):
        for thing in [*any_values(), "li", "liee", "Lie", "lie ", "up", "self", "kinds", ("lie", "stand"), ["lie"]]:
            if thing != "lie":
                with self.subTest(thing):
                    with self.assertRaises(UnknownName) as caught:
                        BARS[thing]
                    self.assertIs(caught.exception.name, thing)

    def test_len(self):
        self.assertEqual([len(BARS), len(ALL), len(Book("a", (("dot", LIE),)))], [2, 4, 1])

    def test_equal(self):
        found = [Book("a", moves) for many in (1, 2, 3, 4) for moves in combinations(ALL.moves, many)]
        for one, other in product(range(len(found)), repeat=2):
            self.assertIs(found[one] == found[other], one == other)
            self.assertIs(found[one] != found[other], one != other)
        self.assertTrue(BARS == Book("a", (("lie", LIE), ("stand", UP))))

    def test_unequal(self):
        for kinds in ("ab", "ac", "abc"):
            self.assertFalse(BARS == Book(kinds, BARS.moves))
            self.assertFalse(Book(kinds, BARS.moves) == BARS)
        self.assertFalse(BARS == Book("a", (("lie", LIE), ("up", UP))))
        self.assertFalse(BARS == Book("a", (("lie", UP), ("stand", LIE))))
        self.assertFalse(Book("a", (("dot", DOT),)) == Book("a", (("dot", ((0, 0, "a", 2),)),)))

    def test_equal_to_no_other_value(self):
        for thing in [*any_values(), BARS.moves, BARS.kinds, (BARS.kinds, BARS.moves), str(BARS), [BARS]]:
            with self.subTest(thing):
                self.assertIs(BARS == thing, False)
                self.assertIs(thing == BARS, False)
                self.assertIs(BARS != thing, True)


class TestTogether(unittest.TestCase):
    def test_the_moves_of_both(self):
        for many, other_many in product((1, 2, 3, 4), repeat=2):
            for one, other in product(combinations(ALL.moves, many), combinations(ALL.moves, other_many)):
                left, right = Book("a", one), Book("a", other)
                found = left | right
                self.assertIsInstance(found, Book)
                self.assertEqual(found, Book("a", tuple(sorted(set(one) | set(other)))))
                self.assertEqual((left.moves, right.moves), (one, other))

    def test_with_itself(self):
        self.assertEqual(BARS | BARS, BARS)

    def test_other_kinds(self):
        for kinds in ("b", "ab", "abc"):
            other = Book(kinds, (("lie", ((0, 0, kinds[-1], 1),)),))
            self.assertRaises(OtherKinds, lambda: BARS | other)
            self.assertRaises(OtherKinds, lambda: other | BARS)

    def test_other_kinds_come_before_a_clash(self):
        other = Book("ab", (("lie", DOT),))
        self.assertRaises(OtherKinds, lambda: BARS | other)
        self.assertRaises(OtherKinds, lambda: BARS | Book("ab", BARS.moves))

    def test_clash(self):
        for names in [("lie",), ("stand",), ("lie", "stand"), ("dot", "lie", "stand"), ("a", "stand", "z")]:
            other = Book("a", tuple((name, STEP) for name in names))
            least = min(name for name in names if name in BARS.names)
            for one, two in ((BARS, other), (other, BARS)):
                with self.subTest(names):
                    with self.assertRaises(Clash) as caught:
                        one | two
                    self.assertEqual(caught.exception.name, least)

    def test_the_least_clash_behind_a_move_that_both_have(self):
        one = Book("a", (("b", DOT), ("c", DOT), ("d", DOT), ("e", DOT)))
        other = Book("a", (("a", LIE), ("b", DOT), ("c", LIE), ("d", LIE)))
        for left, right in ((one, other), (other, one)):
            with self.assertRaises(Clash) as caught:
                left | right
            self.assertEqual(caught.exception.name, "c")
        self.assertEqual(one.names, ("b", "c", "d", "e"))


class TestWithout(unittest.TestCase):
    def test_some_names(self):
        for many in (1, 2, 3):
            for names in combinations(ALL.names, many):
                left = tuple(move for move in ALL.moves if move[0] not in names)
                for told in (names, names[::-1], names + names):
                    found = ALL.without(*told)
                    self.assertIsInstance(found, Book)
                    self.assertEqual(found, Book("a", left))
        self.assertEqual(len(ALL), 4)

    def test_kinds_stay(self):
        book = Book("ab", (("lie", LIE), ("stand", UP)))
        self.assertEqual(book.without("lie"), Book("ab", (("stand", UP),)))

    def test_no_names(self):
        self.assertEqual(BARS.without(), BARS)
        self.assertEqual(Book("a", (("dot", DOT),)).without(), Book("a", (("dot", DOT),)))

    def test_a_name_told_twice_counts_once(self):
        self.assertEqual(BARS.without("lie", "lie"), Book("a", (("stand", UP),)))

    def test_the_first_unknown_name(self):
        for names, first in [(("up",), "up"), (("lie", "up"), "up"), (("zz", "aa"), "zz"), (("aa", "zz"), "aa"),
                             (("lie", "stand", "no"), "no"), (("no", "lie", "stand"), "no"), (("",), ""),
                             (("li",), "li"), (("liestand",), "liestand"), (("lie", "lie", "Lie"), "Lie")]:
            with self.subTest(names):
                with self.assertRaises(UnknownName) as caught:
                    BARS.without(*names)
                self.assertEqual(caught.exception.name, first)

    def test_no_move_left(self):
        for book, names in [(BARS, ("lie", "stand")), (BARS, ("stand", "lie", "lie")), (ALL, ALL.names),
                            (Book("a", (("dot", DOT),)), ("dot",))]:
            with self.assertRaises(BadBook) as caught:
                book.without(*names)
            self.assertEqual(caught.exception.part, "moves")
        self.assertEqual(BARS.names, ("lie", "stand"))


class TestRenamed(unittest.TestCase):
    def assert_raises(self, error, attribute, told, book, names):
        with self.assertRaises(error) as caught:
            book.renamed(**names)
        self.assertEqual(getattr(caught.exception, attribute), told)

    def test_one_name(self):
        self.assertEqual(BARS.renamed(lie="flat"), Book("a", (("flat", LIE), ("stand", UP))))
        self.assertEqual(BARS.renamed(stand="up"), Book("a", (("lie", LIE), ("up", UP))))
        self.assertEqual(BARS.names, ("lie", "stand"))
        self.assertIsInstance(BARS.renamed(lie="flat"), Book)

    def test_moves_are_sorted_again(self):
        self.assertEqual(BARS.renamed(lie="zz"), Book("a", (("stand", UP), ("zz", LIE))))
        self.assertEqual(BARS.renamed(stand="a", lie="b"), Book("a", (("a", UP), ("b", LIE))))

    def test_names_exchanged(self):
        self.assertEqual(BARS.renamed(lie="stand", stand="lie"), Book("a", (("lie", UP), ("stand", LIE))))
        found = ALL.renamed(dot="lie", lie="stand", stand="dot")
        self.assertEqual(found, Book("a", (("dot", UP), ("lie", DOT), ("stand", LIE), ("step", STEP))))

    def test_a_name_that_another_move_gives_up(self):
        found = BARS.renamed(lie="stand", stand="up")
        self.assertEqual(found, Book("a", (("stand", LIE), ("up", UP))))

    def test_no_names_and_the_same_names(self):
        self.assertEqual(BARS.renamed(), BARS)
        self.assertEqual(BARS.renamed(lie="lie"), BARS)
        self.assertEqual(BARS.renamed(lie="lie", stand="stand"), BARS)

    def test_kinds_stay(self):
        self.assertEqual(Book("ab", (("lie", LIE),)).renamed(lie="x"), Book("ab", (("x", LIE),)))

    def test_words_that_programs_like_as_parameters(self):
        for word in ("names", "name", "moves", "book", "cls", "kind", "other", "more", "new", "old", "thing", "part"):
            with self.subTest(word):
                book = Book("a", ((word, DOT),))
                self.assertEqual(book.renamed(**{word: "x"}), Book("a", (("x", DOT),)))

    def test_the_least_unknown_keyword(self):
        self.assert_raises(UnknownName, "name", "up", BARS, {"up": "x"})
        self.assert_raises(UnknownName, "name", "aa", BARS, {"zz": "x", "lie": "y", "aa": "z"})
        self.assert_raises(UnknownName, "name", "mm", BARS, {"mm": "x", "zz": "y", "lie": "z"})
        self.assert_raises(UnknownName, "name", "Lie", BARS, {"Lie": "x", "up": "y"})
        self.assert_raises(UnknownName, "name", "kinds", BARS, {"kinds": "x"})

    def test_an_unknown_keyword_comes_first(self):
        self.assert_raises(UnknownName, "name", "up", BARS, {"up": "no name"})
        self.assert_raises(UnknownName, "name", "up", BARS, {"lie": "no name", "up": "x"})
        self.assert_raises(UnknownName, "name", "up", BARS, {"lie": "stand", "up": "x"})

    def test_new_names_that_are_none(self):
        for name in ["", "kinds", "move", "self", "abcdefghi", "Up", "up ", "u p", "1", "\n"]:
            with self.subTest(name):
                self.assert_raises(BadBook, "part", "names", BARS, {"lie": name})
                self.assert_raises(BadBook, "part", "names", BARS, {"lie": "x", "stand": name})

    def test_a_wrong_name_comes_before_a_clash(self):
        self.assert_raises(BadBook, "part", "names", ALL, {"dot": "lie", "step": "No"})
        self.assert_raises(BadBook, "part", "names", BARS, {"lie": "Same", "stand": "Same"})

    def test_clash(self):
        self.assert_raises(Clash, "name", "stand", BARS, {"lie": "stand"})
        self.assert_raises(Clash, "name", "lie", BARS, {"stand": "lie"})
        self.assert_raises(Clash, "name", "x", BARS, {"lie": "x", "stand": "x"})
        self.assert_raises(Clash, "name", "lie", BARS, {"stand": "lie", "lie": "lie"})

    def test_a_clash_of_like_moves(self):
        book = Book("a", (("one", DOT), ("two", DOT)))
        self.assert_raises(Clash, "name", "two", book, {"one": "two"})

    def test_the_least_clash(self):
        self.assert_raises(Clash, "name", "lie", ALL, {"stand": "step", "dot": "lie"})
        self.assert_raises(Clash, "name", "aa", ALL, {"dot": "zz", "lie": "zz", "stand": "aa", "step": "aa"})
        self.assert_raises(Clash, "name", "aa", ALL, {"dot": "aa", "lie": "aa", "stand": "zz", "step": "zz"})
        self.assertEqual(ALL.names, ("dot", "lie", "stand", "step"))


class TestTurnedAndMirrored(unittest.TestCase):
    book = Book("ab", (("el", ((-1, 2, "b", 3), (0, 0, "a", 1), (0, 0, "b", -2), (4, -1, "a", 5))),
                       ("up", ((0, 0, "a", 1), (0, 1, "a", 1)))))

    def test_turned(self):
        found = self.book.turned()
        self.assertIsInstance(found, Book)
        self.assertEqual(found.kinds, "ab")
        self.assertEqual(found.moves, (
            ("el", ((-2, -1, "b", 3), (0, 0, "a", 1), (0, 0, "b", -2), (1, 4, "a", 5))),
            ("up", ((-1, 0, "a", 1), (0, 0, "a", 1)))))

    def test_mirrored(self):
        found = self.book.mirrored()
        self.assertIsInstance(found, Book)
        self.assertEqual(found.kinds, "ab")
        self.assertEqual(found.moves, (
            ("el", ((-1, 4, "a", 5), (0, 0, "a", 1), (0, 0, "b", -2), (2, -1, "b", 3))),
            ("up", ((0, 0, "a", 1), (1, 0, "a", 1)))))

    def test_what_was_at_a_cell(self):
        for name in self.book.names:
            move, turned, mirrored = self.book[name], self.book.turned()[name], self.book.mirrored()[name]
            for x, y, kind in product(range(-5, 6), range(-5, 6), "ab"):
                self.assertEqual(turned[-y, x, kind], move[x, y, kind])
                self.assertEqual(mirrored[y, x, kind], move[x, y, kind])

    def test_four_quarters_and_two_mirrors(self):
        for book in (self.book, BARS, ALL):
            self.assertEqual(book.turned().turned().turned().turned(), book)
            self.assertEqual(book.mirrored().mirrored(), book)
            self.assertEqual(book.turned().mirrored().turned(), book.mirrored())

    def test_bars(self):
        self.assertEqual(BARS.mirrored(), BARS.renamed(lie="stand", stand="lie"))
        self.assertEqual(BARS.turned()["stand"], Stand("a", ((-2, 0, "a", 1), (-1, 0, "a", 1), (0, 0, "a", 1))))

    def test_the_book_stays(self):
        before = self.book.moves
        self.book.turned()
        self.book.mirrored()
        self.assertEqual(self.book.moves, before)


if __name__ == "__main__":
    unittest.main()
