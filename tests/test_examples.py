"""Promise [21]: the examples, word for word; where any result may be right, that it is right."""

import unittest

from sheetmoves.boards import Board
from sheetmoves.books import Book
from sheetmoves.colourings import is_of, weight, weight_far
from sheetmoves.errors import TooFar
from sheetmoves.rounds import Rounds, round_of
from sheetmoves.stands import Stand
from sheetmoves.verdicts import colouring_holds, verdict, verdict_holds

BARS = Book("a", (("lie", ((0, 0, "a", 1), (1, 0, "a", 1), (2, 0, "a", 1))), ("stand", ((0, 0, "a", 1), (0, 1, "a", 1), (0, 2, "a", 1)))))
LEAP = Book("a", (("leap", ((0, 0, "a", 1), (1, 0, "a", 1), (2, 0, "a", -1))), ("up", ((0, 0, "a", 1), (0, 1, "a", 1), (0, 2, "a", -1)))))
STEP = Book("a", (("step", ((0, 0, "a", -1), (2, 0, "a", 1))),))
ONE = Stand("a", ((0, 0, "a", 1),))
NONE = Stand("a")


class TestExamples(unittest.TestCase):
    def test_bars(self):
        self.assertEqual(Board(BARS, 3, 3).divisors, ())
        self.assertEqual(Board(BARS, 3, 3).free, 4)
        threes = (3, 3, 1, (((0, 1, 2),),))
        self.assertIs(is_of(BARS, threes), True)
        self.assertEqual(weight(threes, BARS["lie"]), (0 + 1 + 2) % 3)
        self.assertEqual(weight(threes, ONE), 0)
        self.assertEqual(weight(threes, ONE.moved((1, 0))), 1)
        self.assertIs(colouring_holds(BARS, ONE, ONE.moved((1, 0)), threes), True)

    def test_step(self):
        self.assertEqual(verdict(STEP, ONE, ONE.moved((4, 0)), 0, 1), ("script", (("step", 0, 0, 1), ("step", 2, 0, 1))))
        other = ONE.moved((3, 0))
        self.assertIs(verdict_holds(STEP, ONE, other, ("colouring", (2, 2, 1, (((0, 1),),)))), True)
        with self.assertRaises(TooFar) as caught:
            verdict(STEP, ONE, other, 1, 1)
        self.assertEqual((caught.exception.most, caught.exception.sides), (1, 1))
        paper = verdict(STEP, ONE, other, 1, 2)
        self.assertEqual(paper[0], "colouring")
        self.assertIs(verdict_holds(STEP, ONE, other, paper), True)

    def test_leap(self):
        self.assertEqual(Board(LEAP, 3, 3).divisors, (2, 2, 2, 2))
        self.assertEqual(Board(LEAP, 3, 3).free, 0)
        self.assertEqual(Board(LEAP, 3, 3).many(2), 16)
        self.assertIs(Board(LEAP, 3, 3).alike(ONE.moved((2, 0)), ONE.moved((1, 0)) + ONE), True)
        self.assertIs(Board(LEAP, 3, 3).alike(ONE.moved((3, 0)), ONE.moved((1, 0)) * 2 + ONE), True)
        self.assertIs(Board(LEAP, 3, 3).alike(ONE.moved((1, 0)) * 2, NONE), True)

    def test_step_on_boards(self):
        self.assertEqual((Board(STEP, 2, 1).divisors, Board(STEP, 2, 1).free), ((), 2))
        self.assertIsNone(Board(STEP, 1, 1).order(ONE))

    def test_rounds(self):
        paper = round_of(BARS, 3, 3, 0, 1)
        self.assertEqual(paper, ("round", (((("lie", 0, 0, -1), ("lie", 1, 0, 1)), (("stand", 0, 0, -1), ("stand", 0, 1, 1))),)))
        found = Rounds(BARS, 3, 3, paper)
        self.assertIs(found.leads(ONE, ONE.moved((3 * 10 ** 8, -6))), True)
        self.assertEqual(found.least(ONE, (1, 0)), 3)
        self.assertEqual(found.least(ONE, (1, 0), ((4, 0, 1),)), 3)
        self.assertEqual(found.least(ONE, (1, 0), ((6, 0, 1),)), 1)

    def test_great_stands(self):
        self.assertEqual(weight_far((3, 3, 1, (((0, 1, 2),),)), ONE, ((10 ** 30, 1, 0),)), 0)
        self.assertEqual(10 ** 30 % 3, 1)


if __name__ == "__main__":
    unittest.main()
