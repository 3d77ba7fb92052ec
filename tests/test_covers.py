"""Promise [14]: covers and covers_holds."""

import random
import unittest

from sheetmoves.books import Book
from sheetmoves.errors import OtherKinds, TooFar
from sheetmoves.stands import Stand
from sheetmoves.verdicts import covers, covers_holds, verdict

from sheets import (
    BARS, LEAP, LIE, ONE, STEP, SWAP, UP, any_values, otherwise, right_colouring, right_covers, some_book,
)

LONG = Book("a", (("bar", tuple((x, 0, "a", 1) for x in range(6))), ("block", tuple((x, y, "a", 1) for x in range(2) for y in range(3)))))
DOT = Book("a", (("dot", ((0, 0, "a", 1),)),))


class TestCovers(unittest.TestCase):
    def test_worked_out(self):
        self.assertEqual(covers(BARS, LONG, 0, 1), ("covers", ((("lie", 0, 0, 1), ("lie", 3, 0, 1)), (("stand", 0, 0, 1), ("stand", 1, 0, 1)))))
        self.assertEqual(covers(DOT, STEP, 0, 1), ("covers", ((("dot", 0, 0, -1), ("dot", 2, 0, 1)),)))
        word, name, colouring = covers(BARS, DOT, 0, 1)
        self.assertEqual((word, name), ("lacks", "dot"))
        self.assertIs(right_colouring(BARS, ONE, colouring), True)

    def test_itself(self):
        for book in (BARS, LEAP, STEP, LONG, DOT):
            word, scripts = covers(book, book, 0, 1)
            self.assertEqual(word, "covers")
            self.assertIs(right_covers(book, book, (word, scripts)), True)
        self.assertEqual(covers(STEP, STEP.renamed(step="walk"), 0, 1), ("covers", ((("step", 0, 0, 1),),)))

    def test_the_first_move_that_is_lacking(self):
        other = Book("a", (("bar", LIE), ("cell", ((0, 0, "a", 1),)), ("dot", ((5, 5, "a", -1),)), ("up", UP)))
        paper = covers(BARS, other, 0, 1)
        self.assertEqual(paper[:2], ("lacks", "cell"))
        self.assertIs(right_covers(BARS, other, paper), True)

    def test_stops_at_what_raises(self):
        far = ("apart", ((0, 0, "a", 1), (1, 0, "a", -1)))
        steps = Book("a", (("b", ((0, 0, "a", 1), (2, 0, "a", -1))), ("c", ((0, 0, "a", 1), (3, 0, "a", -1)))))
        dot = ("dot", ((0, 0, "a", 1),))
        # One to the side does not lie within the frame for 0, and the cell alone is lacking on every board.
        with self.assertRaises(TooFar) as caught:
            covers(steps, Book("a", (far, dot)), 0, 2)
        self.assertEqual((caught.exception.most, caught.exception.sides), (0, 2))
        paper = covers(steps, Book("a", (far, dot)), 1, 1)
        self.assertEqual(paper[:2], ("lacks", "dot"))
        paper = covers(steps, Book("a", (("all", dot[1]), far)), 0, 1)
        self.assertEqual(paper[:2], ("lacks", "all"))

    def test_most_and_sides(self):
        steps = Book("a", (("b", ((0, 0, "a", 1), (2, 0, "a", -1))), ("c", ((0, 0, "a", 1), (3, 0, "a", -1)))))
        near = Book("a", (("near", ((0, 0, "a", 1), (1, 0, "a", -1))),))
        self.assertRaises(TooFar, covers, steps, near, 0, 1)
        self.assertEqual(covers(steps, near, 1, 1)[0], "covers")
        self.assertRaises(TooFar, covers, STEP, near, 3, 1)
        self.assertEqual(covers(STEP, near, 0, 2)[:2], ("lacks", "near"))

    def test_asks_verdict(self):
        source = random.Random(1)
        seen = {"covers": 0, "lacks": 0, "far": 0}
        for _ in range(150):
            kinds = source.choice(("a", "ab"))
            book, other = some_book(source, kinds, 2, 2), some_book(source, kinds, 2, 2)
            if source.random() < 0.4:
                other = Book(kinds, tuple((name, (book[name] * source.choice((1, 2, -3))).moved((5, 5)).entries) for name in book.names))
            words = []
            for name in other.names:
                try:
                    words.append(verdict(book, Stand(kinds), other[name], 1, 2)[0])
                except TooFar:
                    words.append("far")
                if words[-1] != "script":
                    break
            try:
                paper = covers(book, other, 1, 2)
            except TooFar as caught:
                self.assertEqual((words[-1], caught.most, caught.sides), ("far", 1, 2))
                seen["far"] += 1
                continue
            self.assertIs(right_covers(book, other, paper), True)
            self.assertIs(covers_holds(book, other, paper), True)
            self.assertEqual(words[-1], {"covers": "script", "lacks": "colouring"}[paper[0]])
            if paper[0] == "lacks":
                self.assertEqual(paper[1], other.names[len(words) - 1])
            seen[paper[0]] += 1
        self.assertGreater(min(seen.values()), 5)

    def test_kinds_differ(self):
        for book, other in [(BARS, SWAP), (SWAP, BARS)]:
            with self.assertRaises(OtherKinds):
                covers(book, other, 0, 1)
            for thing in any_values():
                with self.assertRaises(OtherKinds):
                    covers_holds(book, other, thing)

    def test_by_name(self):
        self.assertEqual(covers(book=STEP, other=STEP, most=0, sides=1)[0], "covers")
        self.assertIs(covers_holds(book=STEP, other=STEP, thing=None), False)


class TestCoversHolds(unittest.TestCase):
    def test_papers_with_one_part_otherwise(self):
        for book, other, sides in [(BARS, LONG, 1), (BARS, DOT, 1), (DOT, STEP, 1), (BARS, BARS.renamed(lie="dot") | DOT.renamed(dot="cell"), 1),
                                   (SWAP, SWAP.mirrored(), 2), (LEAP, DOT, 3)]:
            paper = covers(book, other, 0, sides)
            self.assertIs(covers_holds(book, other, paper), True)
            for thing in otherwise(paper):
                self.assertIs(covers_holds(book, other, thing), right_covers(book, other, thing), thing)

    def test_any_move_may_be_lacking(self):
        # The paper need not tell the first move that is lacking.
        other = Book("a", (("a", ((0, 0, "a", 1),)), ("b", ((1, 0, "a", 1),)), ("c", LIE)))
        colouring = (3, 3, 1, (((0, 1, 2),),))
        self.assertIs(covers_holds(BARS, other, ("lacks", "a", colouring)), False)
        self.assertIs(covers_holds(BARS, other, ("lacks", "b", colouring)), True)
        self.assertIs(covers_holds(BARS, other, ("lacks", "c", colouring)), False)
        self.assertIs(covers_holds(BARS, other, ("lacks", "d", colouring)), False)

    def test_as_many_scripts_as_moves(self):
        scripts = covers(BARS, LONG, 0, 1)[1]
        for thing in [(), scripts[:1], scripts[1:], scripts[::-1], scripts + ((),), list(scripts), (scripts,)]:
            self.assertIs(covers_holds(BARS, LONG, ("covers", thing)), False)
        self.assertIs(covers_holds(BARS, LONG, ("covers", scripts)), True)

    def test_any_values(self):
        for thing in any_values():
            self.assertIs(covers_holds(BARS, LONG, thing), False)
            self.assertIs(covers_holds(BARS, LONG, ("covers", thing)), False)
            self.assertIs(covers_holds(BARS, DOT, ("lacks", "dot", thing)), False)
            self.assertIs(covers_holds(BARS, DOT, ("lacks", thing, (3, 1, 1, (((1,),),)))), False)
        self.assertIs(covers_holds(BARS, DOT, ("lacks", "dot", (3, 1, 1, (((1,),),)))), True)


if __name__ == "__main__":
    unittest.main()
