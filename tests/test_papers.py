"""Promises [3], [10] and [11]: script_holds, colouring_holds and verdict_holds accept exactly the right papers."""

import random
import unittest

from sheetmoves.books import Book
from sheetmoves.boards import Board
from sheetmoves.colourings import moved_colouring
from sheetmoves.errors import OtherKinds, TooFar
from sheetmoves.scripts import laid, undone
from sheetmoves.stands import Stand
from sheetmoves.verdicts import colouring_holds, script_holds, verdict, verdict_holds

from sheets import (
    BARS, LEAP, NONE, ONE, STEP, SWAP, any_values, otherwise, right_colouring, right_paper, right_script,
    some_book, some_entries, told_sizes,
)

THREES = (3, 3, 1, (((0, 1, 2),),))
WALL = Stand("a", tuple((x, y, "a", 1) for x in range(5) for y in range(3)))


class TestScripts(unittest.TestCase):
    def test_right_ones(self):
        for script in [(("step", 0, 0, 1), ("step", 2, 0, 1)),
                       (("step", -2, 0, 5), ("step", 0, 0, 1), ("step", 2, 0, 1))]:
            self.assertIs(script_holds(STEP, ONE, ONE.moved((4, 0)), script), script[0][0:2] == ("step", 0))
        lying = tuple(("lie", 0, y, 1) for y in range(3))
        standing = tuple(("stand", x, 0, 1) for x in range(3))
        square = Stand("a", tuple((x, y, "a", 1) for x in range(3) for y in range(3)))
        for script in (lying, standing):
            self.assertIs(script_holds(BARS, NONE, square, script), True)
            self.assertIs(script_holds(BARS, ONE, square + ONE, script), True)
            self.assertIs(script_holds(BARS, square, NONE, script), False)
            self.assertIs(script_holds(BARS, square, NONE, laid(BARS, undone(script))), True)

    def test_a_stand_and_itself(self):
        self.assertIs(script_holds(BARS, ONE, ONE, ()), True)
        self.assertIs(script_holds(BARS, NONE, NONE, ()), True)
        # Nine cells lying, the same ones standing taken away: nothing, in six deeds.
        nothing = tuple(("lie", 0, y, 1) for y in range(3)) + tuple(("stand", x, 0, -1) for x in range(3))
        self.assertIs(script_holds(BARS, ONE, ONE, nothing), True)
        self.assertIs(script_holds(BARS, ONE, ONE, nothing[1:]), False)
        self.assertIs(verdict_holds(BARS, ONE, ONE, ("script", nothing)), True)
        self.assertIs(verdict_holds(BARS, ONE, ONE, ("colouring", THREES)), False)

    def test_anywhere_and_of_any_size(self):
        far = ONE.moved((10 ** 9, 0))
        script = tuple(("step", 2 * k, 0, 1) for k in range(5000))
        self.assertIs(script_holds(STEP, ONE, ONE.moved((10000, 0)), script), True)
        self.assertIs(script_holds(STEP, ONE, ONE.moved((9998, 0)), script), False)
        self.assertIs(script_holds(STEP, far * 10 ** 40, far.moved((2, 0)) * 10 ** 40, (("step", 10 ** 9, 0, 10 ** 40),)), True)
        great = 10 ** 399
        self.assertIs(script_holds(STEP, NONE, NONE, (("step", great, great, great),)), False)

    def test_not_laid(self):
        one, other = ONE, ONE.moved((4, 0))
        for script in [(("step", 2, 0, 1), ("step", 0, 0, 1)), (("step", 0, 0, 1), ("step", 1, 0, 0), ("step", 2, 0, 1)),
                       ((2, 2, 0, (("step", 0, 0, 1),)),), (("step", 0, 0, 1), ("step", 0, 0, 1), ("step", 2, 0, 1)),
                       [("step", 0, 0, 1), ("step", 2, 0, 1)], (["step", 0, 0, 1], ("step", 2, 0, 1)),
                       (("step", 0, 0, True), ("step", 2, 0, 1)), (("step", False, 0, 1), ("step", 2, 0, 1)),
                       (("step", 0, 0, 1), (0, 0, 0, ()), ("step", 2, 0, 1)), (("jump", 0, 0, 1), ("step", 2, 0, 1))]:
            with self.subTest(script):
                self.assertIs(script_holds(STEP, one, other, script), False)

    def test_any_values(self):
        for thing in any_values():
            self.assertIs(script_holds(STEP, ONE, ONE.moved((4, 0)), thing), False)
            self.assertIs(script_holds(STEP, ONE, ONE, thing), isinstance(thing, tuple) and thing == ())


class TestColourings(unittest.TestCase):
    def test_right_ones(self):
        self.assertIs(colouring_holds(BARS, ONE, ONE.moved((1, 0)), THREES), True)
        self.assertIs(colouring_holds(BARS, ONE.moved((1, 0)), ONE, THREES), True)
        self.assertIs(colouring_holds(BARS, ONE, ONE, THREES), False)
        self.assertIs(colouring_holds(BARS, ONE, ONE.moved((3, 7)), THREES), False)
        self.assertIs(colouring_holds(BARS, NONE, ONE, THREES), False)
        self.assertIs(colouring_holds(BARS, NONE, ONE, moved_colouring(THREES, (1, 0))), True)
        self.assertIs(colouring_holds(STEP, ONE, ONE.moved((1, 0)), THREES), False)

    def test_of_any_size(self):
        great = (10 ** 40, 2, 1, (((0, 10 ** 40 - 1),),))
        self.assertIs(colouring_holds(STEP, ONE, ONE.moved((1, 0)), great), True)
        self.assertIs(colouring_holds(STEP, ONE, ONE.moved((10 ** 9, 0)), great), False)
        wide = (2, 40, 50, ((tuple(k % 2 for k in range(40)),) * 50,))
        self.assertIs(colouring_holds(STEP, ONE, ONE.moved((1, 0)), wide), True)
        self.assertIs(colouring_holds(BARS, ONE, ONE.moved((1, 0)), wide), False)
        # The rows may be unlike: of this book is what adds up along each of them.
        rows = (2, 2, 3, (((0, 0), (1, 1), (0, 0)),))
        self.assertIs(colouring_holds(STEP, ONE, ONE.moved((0, 1)), rows), True)
        self.assertIs(colouring_holds(STEP, ONE, ONE.moved((5, 3)), rows), False)

    def test_several_kinds(self):
        one, other = Stand("ab", ((0, 0, "a", 1),)), Stand("ab", ((0, 0, "b", 1),))
        parity = (2, 2, 1, (((0, 1),), ((1, 0),)))
        self.assertIs(colouring_holds(SWAP, one, other, parity), True)
        self.assertIs(colouring_holds(SWAP, one, other.moved((1, 5)), parity), False)
        for tables in [parity[3][:1], parity[3] + parity[3][:1], parity[3][::-1][:1]]:
            self.assertIs(colouring_holds(SWAP, one, other, parity[:3] + (tables,)), False)

    def test_wrong_forms(self):
        for thing in [[3, 3, 1, (((0, 1, 2),),)], (3, 3, 1, [((0, 1, 2),)]), (3, 3, 1, ([(0, 1, 2)],)), (3, 3, 1, (([0, 1, 2],),)),
                      (3, 3, 1, (((0, True, 2),),)), (3, 3, True, (((0, 1, 2),),)), (3, 3, 1, (((0, 1, 2),),), 0), (3, 3, 1),
                      (3, 3, 1, (((0, 1, 3),),)), (3, 3, 1, (((0, 1, -1),),)), (3, 3, 2, (((0, 1, 2),),)), (3, 1, 3, (((0, 1, 2),),)),
                      (0, 3, 1, (((0, 1, 2),),)), (1, 3, 1, (((0, 0, 0),),)), (3, 0, 1, (((),),)), (3, 3, 0, ((),)),
                      (-3, 3, 1, (((0, 1, 2),),)), ("3", 3, 1, (((0, 1, 2),),)), (3, 3, 1, (((0, 1, 2),), ((0, 1, 2),)))]:
            with self.subTest(thing):
                self.assertIs(colouring_holds(BARS, ONE, ONE.moved((1, 0)), thing), False)

    def test_any_values(self):
        for thing in any_values():
            self.assertIs(colouring_holds(BARS, ONE, ONE.moved((1, 0)), thing), False)
            self.assertIs(verdict_holds(BARS, ONE, ONE.moved((1, 0)), thing), False)


class TestPapers(unittest.TestCase):
    def assert_exact(self, book, one, other, paper):
        """Of a paper, and of all that are otherwise in one part, just the right ones hold."""
        self.assertIs(verdict_holds(book, one, other, paper), True)
        right = 0
        for thing in otherwise(paper):
            expected = right_paper(book, other - one, thing)
            self.assertIs(verdict_holds(book, one, other, thing), expected, thing)
            right += expected
        for thing in otherwise(paper[1]):
            self.assertIs(script_holds(book, one, other, thing), right_script(book, other - one, thing), thing)
            self.assertIs(colouring_holds(book, one, other, thing), right_colouring(book, other - one, thing), thing)
        return right

    def test_worked_out(self):
        for book, one, other, sides in [(STEP, ONE, ONE.moved((4, 0)), 1), (STEP, ONE, ONE.moved((3, 0)), 2), (BARS, NONE, WALL, 1),
                                        (BARS, NONE, WALL + ONE, 3), (LEAP, ONE, ONE.moved((1, 0)), 3)]:
            self.assert_exact(book, one, other, verdict(book, one, other, 0, sides))
        self.assert_exact(SWAP, Stand("ab"), Stand("ab", ((0, 0, "a", 3),)), verdict(SWAP, Stand("ab"), Stand("ab", ((0, 0, "a", 3),)), 0, 1))
        self.assert_exact(STEP, ONE, ONE, ("script", ()))

    def test_some(self):
        source = random.Random(1)
        seen = {"script": 0, "colouring": 0}
        right = 0
        while min(seen.values()) < 12:
            kinds, most, sides, wide, high = told_sizes(source)
            book = some_book(source, kinds, 2, 2)
            one = Stand(kinds, some_entries(source, kinds, wide, high, 4))
            other = Stand(kinds, some_entries(source, kinds, wide, high, 4))
            try:
                paper = verdict(book, one, other, most, sides)
            except TooFar:
                continue
            if seen[paper[0]] < 12:
                seen[paper[0]] += 1
                right += self.assert_exact(book, one, other, paper)
        # Some colourings bar the stands with another number at one place, too; the checks tell them apart.
        self.assertGreater(right, 0)

    def test_the_word_counts(self):
        script = (("step", 0, 0, 1), ("step", 2, 0, 1))
        parity = (2, 2, 1, (((0, 1),),))
        for other, right, word in [(ONE.moved((4, 0)), script, "script"), (ONE.moved((3, 0)), parity, "colouring")]:
            for told in ["script", "colouring", "Script", "", "scripts", None, True, 0, (word,), [word], Stand("a")]:
                self.assertIs(verdict_holds(STEP, ONE, other, (told, right)), told == word)
            for thing in [(word, right, right), (word,), (right, word), [word, right], {word: right}, right, (word, (right,)), (word, [right])]:
                self.assertIs(verdict_holds(STEP, ONE, other, thing), False)

    def test_never_both(self):
        source = random.Random(2)
        for _ in range(60):
            book = some_book(source, "a", 3, 3)
            one = Stand("a", some_entries(source, "a", 3, 3))
            board = Board(book, 3, 4)
            for name in book.names:
                other = one + book[name] * source.randrange(1, 9)
                self.assertIsNone(board.tells(one, other))
                self.assertIs(script_holds(book, one, other, ((name, 0, 0, (other - one).entries[0][3] // book[name].entries[0][3]),)), True)

    def test_kinds_differ(self):
        other = Stand("b")
        for asked in (script_holds, colouring_holds, verdict_holds):
            for thing in any_values() + [("script", ()), THREES]:
                for book, one, two in [(BARS, ONE, other), (BARS, other, ONE), (BARS, other, other), (SWAP, ONE, ONE), (SWAP, Stand("ab"), NONE)]:
                    with self.assertRaises(OtherKinds):
                        asked(book, one, two, thing)

    def test_by_name(self):
        for asked in (script_holds, colouring_holds, verdict_holds):
            self.assertIs(asked(book=BARS, one=ONE, other=ONE, thing=None), False)

    def test_things_stay(self):
        thing = ["script", [("step", 0, 0, 1)]]
        verdict_holds(STEP, ONE, ONE, thing)
        self.assertEqual(thing, ["script", [("step", 0, 0, 1)]])

    def test_books_with_the_same_moves_under_other_names(self):
        script = (("step", 0, 0, 1), ("step", 2, 0, 1))
        book = Book("a", (("walk", STEP.moves[0][1]),))
        self.assertIs(script_holds(book, ONE, ONE.moved((4, 0)), script), False)
        self.assertIs(script_holds(STEP.renamed(step="walk"), ONE, ONE.moved((4, 0)), (("walk", 0, 0, 1), ("walk", 2, 0, 1))), True)


if __name__ == "__main__":
    unittest.main()
