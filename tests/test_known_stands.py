"""Promises [4], [6] and [7]: stands that the program makes of what it knows are as good as stands of any values."""

import random
import unittest

from sheetmoves.boards import Board
from sheetmoves.books import Book
from sheetmoves.errors import BadBook, BadStand, UnknownName
from sheetmoves.scripts import change
from sheetmoves.stands import Stand

from sheets import BARS, NONE, ONE, SWAP, TURNS, any_values, some_book, some_entries

SIX = Book("a", (("lie", tuple((x, y, "a", 1) for x in range(3) for y in range(2))),))


class TestKnownStands(unittest.TestCase):
    def assert_sound(self, stand):
        """A stand is like the one that is made, and checked, of its entries."""
        self.assertIs(type(stand), Stand)
        made = Stand(stand.kinds, stand.entries)
        self.assertIs(type(stand.entries), tuple)
        self.assertTrue(all(type(entry) is tuple for entry in stand.entries))
        self.assertEqual(stand, made)
        self.assertEqual(made, stand)
        self.assertEqual((str(stand), len(stand), stand.box), (str(made), len(made), made.box))
        cells = [(x, y) for x, y, _, _ in stand.entries] + [(x + 1, y) for x, y, _, _ in stand.entries] + [(0, 0)]
        for x, y in cells:
            self.assertIs((x, y) in stand, (x, y) in made)
            for kind in stand.kinds:
                self.assertEqual(stand[x, y, kind], made[x, y, kind])
        self.assertEqual(Stand.read(str(stand)), stand)

    def test_sums(self):
        source = random.Random(1)
        for kinds in ("a", "ab", "xyz"):
            for _ in range(60):
                one = Stand(kinds, some_entries(source, kinds, 3, 3, 9, 2))
                other = Stand(kinds, some_entries(source, kinds, 3, 3, 9, 2))
                for stand in (one + other, one - other, one - one, one * 0, one * -3, one + other - one, one.moved((-5, 7)), (one - other).moved((0, 0)),
                              one * 10 ** 30 - one * (10 ** 30 - 1), Stand(kinds) + one, one + Stand(kinds)):
                    self.assert_sound(stand)
                self.assertEqual(one + other - one, other)
                self.assertEqual(one * 3 - one - one, one)

    def test_what_comes_to_nothing(self):
        stand = ONE + ONE.moved((1, 0)) - ONE
        self.assertIs((0, 0) in stand, False)
        self.assertEqual((len(stand), stand[0, 0, "a"], stand.box), (1, 0, (1, 0, 1, 0)))
        self.assertEqual(ONE - ONE, NONE)
        self.assertIs((0, 0) in ONE * 0, False)
        changed = change(BARS, (("lie", 0, 0, 1), ("lie", 1, 0, -1)))
        self.assertIs((1, 0) in changed, False)
        self.assertIs((3, 0) in changed, True)
        self.assertEqual(changed[1, 0, "a"], 0)
        self.assert_sound(changed)

    def test_long_walks(self):
        # Sums of sums leave nothing behind: a stand is no longer than its entries.
        stand = ONE
        for k in range(2000):
            stand = stand + ONE.moved((k + 1, 0)) - ONE.moved((k, 0))
        self.assertEqual(stand, ONE.moved((2000, 0)))
        self.assertEqual(len(stand._numbers), 1)

    def test_changes(self):
        source = random.Random(2)
        for book in (BARS, SWAP, TURNS, SIX, some_book(source, "ab"), some_book(source, "xyz")):
            for _ in range(40):
                deeds = tuple((source.choice(book.names), source.randrange(-3, 4), source.randrange(-3, 4), source.randrange(-2, 3)) for _ in range(6))
                deeds = deeds + ((source.randrange(5), 1, -1, deeds[:3]),)
                found = change(book, deeds)
                self.assert_sound(found)
                total = Stand(book.kinds)
                for name, x, y, times in deeds[:6]:
                    total = total + book[name].moved((x, y)) * times
                for k in range(deeds[6][0]):
                    for name, x, y, times in deeds[:3]:
                        total = total + book[name].moved((x + k, y - k)) * times
                self.assertEqual(found, total)

    def test_a_long_walk_of_six_entries(self):
        found = change(SIX, ((1700, 5, 1, (("lie", 0, 0, 1),)),))
        expected = Stand("a", tuple(sorted((5 * k + x, k + y, "a", 1) for k in range(1700) for x in range(3) for y in range(2))))
        self.assertEqual(found, expected)
        self.assertEqual(found, change(SIX, tuple(("lie", 5 * k, k, 1) for k in range(1700))))
        self.assert_sound(found)

    def test_boards(self):
        board = Board(SWAP, 4, 2)
        for stand in (Stand("ab"), Stand("ab", ((9, 9, "a", 2), (13, 11, "a", -2), (10 ** 9, -1, "b", 3)))):
            self.assert_sound(board.folded(stand))
            self.assert_sound(board.done(stand, (("p", 0, 0, 1), (10 ** 30, 1, 1, (("up", 0, 0, 1),)))))

    def test_moves_of_a_book(self):
        for book in (BARS, SWAP, TURNS, SIX):
            for name, entries in book.moves:
                for _ in range(3):
                    self.assertEqual(book[name], Stand(book.kinds, entries))
                    self.assertEqual(book[name].entries, entries)
                    self.assert_sound(book[name])
                # What is done with a move does not change it.
                changed = book[name] * 2 + book[name].moved((1, 1))
                self.assertEqual(len(changed - book[name] - book[name] - book[name].moved((1, 1))), 0)
                self.assertEqual(book[name], Stand(book.kinds, entries))
            self.assertEqual(book.names, tuple(name for name, _ in book.moves))
        for thing in any_values():
            with self.assertRaises(UnknownName) as caught:
                BARS[thing]
            self.assertIs(caught.exception.name, thing)
        renamed = BARS.renamed(lie="stand", stand="lie")
        self.assertEqual((renamed["lie"], renamed["stand"]), (BARS["stand"], BARS["lie"]))

    def test_what_callers_pass_is_checked(self):
        right = tuple((x, 0, "a", 1) for x in range(50))
        for at in (0, 1, 25, 49):
            for wrong in [(at, 0, "a", 0), (at, 0, "b", 1), (True, 0, "a", 1), (at, False, "a", 1), (at, 0, "a", True), [at, 0, "a", 1], (at, 0, "a"), None]:
                entries = right[:at] + (wrong,) + right[at + 1:]
                with self.assertRaises(BadStand) as caught:
                    Stand("a", entries)
                self.assertIs(caught.exception.part, wrong)
                with self.assertRaises(BadBook) as caught:
                    Book("a", (("lie", entries),))
                self.assertEqual(caught.exception.part, ("lie", entries))
        for entries in [right[::-1], right + right[-1:], right[:1] + right, right[:9] + ((8, 0, "a", 2),) + right[9:], right[1:2] + right[:1],
                        right[:9] + ((8, 0, "a", -5),) + right[9:], ((0, 0, "a", 1), (0, 0, "a", 2)), ((0, 0, "a", 2), (0, 0, "a", 1))]:
            with self.assertRaises(BadStand) as caught:
                Stand("a", entries)
            self.assertEqual(caught.exception.part, "order")


if __name__ == "__main__":
    unittest.main()
