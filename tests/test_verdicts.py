"""Promises [3], [8], [9] and [11]: frames, verdicts and papers."""

import random
import unittest

from sheetmoves import verdicts
from sheetmoves.books import Book
from sheetmoves.colourings import is_colouring, is_of, weight
from sheetmoves.errors import OtherKinds, TooFar
from sheetmoves.scripts import change, is_laid, within
from sheetmoves.stands import Stand
from sheetmoves.verdicts import frame_of, is_led, verdict

from sheets import (
    BARS, LEAP, NINES, NONE, ONE, STEP, SWAP, TURNS, leads_in_frame, right_paper, some_book, some_entries,
    told_sizes, unlike_within,
)

ZERO = Stand("b")


def rectangle(wide, high):
    return Stand("a", tuple((x, y, "a", 1) for x in range(wide) for y in range(high)))


class TestFrames(unittest.TestCase):
    def test_worked_out(self):
        two = ONE + ONE.moved((3, -2))
        self.assertEqual(frame_of(NONE, two, 0), (0, -2, 3, 0))
        self.assertEqual(frame_of(two, NONE, 0), (0, -2, 3, 0))
        self.assertEqual(frame_of(NONE, two, 2), (-2, -4, 5, 2))
        self.assertEqual(frame_of(NONE, ONE, 0), (0, 0, 0, 0))
        self.assertEqual(frame_of(NONE, ONE, 10 ** 9), (-10 ** 9, -10 ** 9, 10 ** 9, 10 ** 9))

    def test_only_the_difference_counts(self):
        far = ONE.moved((10 ** 9, -10 ** 9)) * 10 ** 40
        self.assertEqual(frame_of(far + ONE, far, 1), (-1, -1, 1, 1))
        self.assertEqual(frame_of(far, far + far, 0), (10 ** 9, -10 ** 9, 10 ** 9, -10 ** 9))

    def test_equal_stands(self):
        for stand in (NONE, ONE, rectangle(3, 5)):
            for most in (0, 1, 10 ** 9):
                self.assertIsNone(frame_of(stand, stand, most))
                self.assertIsNone(frame_of(stand, stand + NONE, most))

    def test_kinds_differ(self):
        for one, other in [(ONE, ZERO), (ZERO, ONE), (NONE, ZERO), (NONE, Stand("ab"))]:
            with self.assertRaises(OtherKinds):
                frame_of(one, other, 0)

    def test_by_name(self):
        self.assertEqual(frame_of(one=NONE, other=ONE, most=1), (-1, -1, 1, 1))

    def test_some(self):
        source = random.Random(1)
        for _ in range(100):
            one = Stand("ab", some_entries(source, "ab", 9, 9))
            other = Stand("ab", some_entries(source, "ab", 9, 9))
            most = source.randrange(4)
            cells = [(x, y) for x in range(9) for y in range(9)
                     if any(one[x, y, kind] != other[x, y, kind] for kind in "ab")]
            expected = (min(x for x, _ in cells) - most, min(y for _, y in cells) - most,
                        max(x for x, _ in cells) + most, max(y for _, y in cells) + most)
            self.assertEqual(frame_of(one, other, most), expected)


class TestVerdict(unittest.TestCase):
    def assert_paper(self, book, one, other, paper, word):
        self.assertEqual(paper[0], word)
        self.assertIs(right_paper(book, other - one, paper), True)
        if word == "script":
            self.assertIs(is_laid(book, paper[1]), True)
            self.assertEqual(one + change(book, paper[1]), other)
        else:
            self.assertIs(is_colouring(book.kinds, paper[1]), True)
            self.assertIs(is_of(book, paper[1]), True)
            self.assertNotEqual(weight(paper[1], one), weight(paper[1], other))

    def test_rectangles(self):
        # A rectangle is a sum of bars of three cells if, and only if, a side is a multiple of three.
        for wide in range(1, 7):
            for high in range(1, 36 // wide + 1):
                if wide * high <= 36:
                    word = "script" if wide % 3 == 0 or high % 3 == 0 else "colouring"
                    paper = verdict(BARS, NONE, rectangle(wide, high), 0, 3)
                    self.assert_paper(BARS, NONE, rectangle(wide, high), paper, word)
                    if word == "script":
                        self.assertIs(within(BARS, paper[1], (0, 0, wide - 1, high - 1)), True)

    def test_a_stand_and_itself(self):
        for book, stand in [(BARS, NONE), (BARS, ONE), (LEAP, rectangle(5, 5)), (SWAP, Stand("ab", ((9, 9, "b", -1),)))]:
            for most, sides in [(0, 1), (3, 1), (0, 2)]:
                self.assertEqual(verdict(book, stand, stand, most, sides), ("script", ()))
                self.assertEqual(verdict(book, stand, stand + Stand(book.kinds), most, sides), ("script", ()))
                self.assertIs(is_led(book, stand, stand, most, sides), True)

    def test_most(self):
        # A bar, and one taken away with a step to the right, lie in a frame of four cells.
        other = ONE.moved((6, 0))
        self.assert_paper(BARS, ONE, other, verdict(BARS, ONE, other, 0, 1), "script")
        wide = Book("a", (("far", ((0, 0, "a", 1), (3, 0, "a", -1))), ("near", ((0, 0, "a", 1), (2, 0, "a", -1)))))
        # One to the right is three to the right and two to the left: three cells in a row are needed.
        for most in (0,):
            with self.assertRaises(TooFar) as caught:
                verdict(wide, ONE, ONE.moved((1, 0)), most, 1)
            self.assertEqual((caught.exception.most, caught.exception.sides), (most, 1))
        for most in (1, 2):
            paper = verdict(wide, ONE, ONE.moved((1, 0)), most, 1)
            self.assert_paper(wide, ONE, ONE.moved((1, 0)), paper, "script")
            self.assertIs(within(wide, paper[1], (-most, -most, 1 + most, most)), True)

    def test_sides(self):
        steps = Book("a", (("four", ((0, 0, "a", -1), (4, 0, "a", 1))), ("up", ((0, 0, "a", 1), (0, 1, "a", -1)))))
        for far, needed in [(1, 2), (2, 4), (3, 2)]:
            for sides in range(1, 5):
                if sides < needed:
                    with self.assertRaises(TooFar) as caught:
                        verdict(steps, ONE, ONE.moved((far, 0)), 0, sides)
                    self.assertEqual((caught.exception.most, caught.exception.sides), (0, sides))
                else:
                    paper = verdict(steps, ONE, ONE.moved((far, 0)), 0, sides)
                    self.assert_paper(steps, ONE, ONE.moved((far, 0)), paper, "colouring")
        upward = steps.mirrored()
        with self.assertRaises(TooFar):
            verdict(upward, ONE, ONE.moved((0, 2)), 0, 3)
        self.assert_paper(upward, ONE, ONE.moved((0, 2)), verdict(upward, ONE, ONE.moved((0, 2)), 0, 4), "colouring")

    def test_sides_that_are_no_multiples(self):
        # Three cells in a row are nothing, so boards whose sides are 1, 2 or 4 tell only sums.
        threes = ONE + ONE.moved((1, 0)) - ONE.moved((2, 0)) * 2
        for sides in (1, 2):
            with self.assertRaises(TooFar):
                verdict(BARS, NONE, threes, 0, sides)
        for sides in (3, 4):
            self.assert_paper(BARS, NONE, threes, verdict(BARS, NONE, threes, 0, sides), "colouring")

    def test_no_move_within_the_frame(self):
        with self.assertRaises(TooFar):
            verdict(BARS, NONE, ONE * 3, 0, 1)
        with self.assertRaises(TooFar):
            verdict(BARS, NONE, ONE * 3, 0, 2)
        self.assert_paper(BARS, NONE, ONE * 3, verdict(BARS, NONE, ONE * 3, 0, 3), "colouring")
        self.assert_paper(BARS, NONE, ONE, verdict(BARS, NONE, ONE, 0, 1), "colouring")

    def test_far_and_great(self):
        for far in [(10 ** 9, -10 ** 9), (-10 ** 9, 10 ** 9 - 5), (0, 0)]:
            for times in (1, -1, 10 ** 40, 10 ** 40 - 1):
                one, other = ONE.moved(far) * times, ONE.moved((far[0] + 4, far[1])) * times
                for paper in (verdict(STEP, one, other, 0, 1), verdict(STEP, other, one, 1, 1)):
                    self.assertEqual(paper[0], "script")
                self.assertEqual(verdict(STEP, one, other, 0, 1),
                                 ("script", (("step", far[0], far[1], times), ("step", far[0] + 2, far[1], times))))
                other = ONE.moved((far[0] + 3, far[1])) * times
                self.assert_paper(STEP, one, other, verdict(STEP, one, other, 0, 2), "colouring")

    def test_entries_off_the_place(self):
        # The moves of this book lie far from the places where they are made.
        one, other = Stand("abc", ((0, 0, "a", 1),)), Stand("abc", ((2, 0, "a", 1), (2, 3, "b", 2)))
        paper = verdict(TURNS, one, other, 0, 1)
        self.assertEqual(paper, ("script", (("l", 50, -3, 1),)))
        self.assert_paper(TURNS, other, one, verdict(TURNS, other, one, 0, 2), "script")

    def test_great_multiples(self):
        for many in range(1, 7):
            paper = verdict(NINES, ONE.moved((many, 0)), ONE * 9 ** many, 0, 1)
            self.assert_paper(NINES, ONE.moved((many, 0)), ONE * 9 ** many, paper, "script")
        paper = verdict(NINES, ONE, ONE.moved((35, 0)) * 7, 0, 1)
        self.assert_paper(NINES, ONE, ONE.moved((35, 0)) * 7, paper, "colouring")

    def test_against_all_deeds_and_boards(self):
        source = random.Random(3)
        seen = {"script": 0, "colouring": 0, "far": 0}
        for _ in range(500):
            kinds, most, sides, wide, high = told_sizes(source)
            book = some_book(source, kinds, source.randrange(1, 4), source.randrange(1, 3))
            one = Stand(kinds, some_entries(source, kinds, wide, high, 4, 9))
            other = Stand(kinds, some_entries(source, kinds, wide, high, 4, 9))
            if source.random() < 0.4:
                name = source.choice(book.names)
                left, low = book[name].box[:2]
                times = source.randrange(1, 5)
                other = one + book[name].moved((-left, -low)) * times
                if other.box is None or (other - one).box[2] > 3 or (other - one).box[3] > 2:
                    continue
            far = (source.randrange(-10 ** 9, 10 ** 9), source.randrange(-10 ** 9, 10 ** 9))
            one, other = one.moved(far), other.moved(far)
            self.assert_exact(book, one, other, most, sides, seen)
        self.assertGreater(min(seen.values()), 25)

    def assert_exact(self, book, one, other, most, sides, seen):
        """What verdict and is_led do, by going through all that they may find."""
        if one == other:
            self.assertEqual(verdict(book, one, other, most, sides), ("script", ()))
            return
        script = leads_in_frame(book, other - one, frame_of(one, other, most))
        colouring = unlike_within(book, other - one, sides)
        self.assertFalse(script and colouring)
        try:
            paper = verdict(book, one, other, most, sides)
        except TooFar as caught:
            self.assertFalse(script or colouring)
            self.assertEqual((caught.most, caught.sides), (most, sides))
            self.assertRaises(TooFar, is_led, book, one, other, most, sides)
            seen["far"] += 1
            return
        self.assert_paper(book, one, other, paper, "script" if script else "colouring")
        self.assertTrue(script or colouring)
        self.assertIs(is_led(book, one, other, most, sides), script)
        seen[paper[0]] += 1

    def test_great_frames(self):
        # 36 numbers of a frame, and many moves: the script is found at once, and its numbers stay readable.
        source = random.Random(4)
        for kinds, wide, high in [("a", 6, 6), ("a", 36, 1), ("a", 1, 36), ("a", 4, 9), ("ab", 6, 3), ("abc", 3, 4), ("abc", 12, 1)]:
            for _ in range(6):
                book = some_book(source, kinds, 2 if wide > 1 else 1, 2 if high > 1 else 1)
                if len(book) < 4:
                    book = book | Book(kinds, (("zz", ((0, 0, kinds[0], 5),)),))
                one = Stand(kinds, ((0, 0, kinds[0], 1), (wide - 1, high - 1, kinds[-1], 1)))
                other = one
                for name in book.names:
                    left, low, right, top = book[name].box
                    for _ in range(4):
                        at = (source.randrange(wide - right + left) - left, source.randrange(high - top + low) - low)
                        other = other + book[name].moved(at) * source.randrange(-10 ** 9, 10 ** 9)
                if one != other:
                    paper = verdict(book, one, other, 0, 1) if (other - one).box == (0, 0, wide - 1, high - 1) else None
                    if paper is not None:
                        self.assert_paper(book, one, other, paper, "script")
                        self.assertLess(max(abs(deed[3]) for deed in paper[1]), 10 ** 200)

    def test_many_moves(self):
        # Books may be put together to greater ones than the limits let.
        source = random.Random(5)
        for _ in range(5):
            moves = tuple((name, some_entries(source, "a", 3, 3)) for name in "abcdefghijkl")
            book = Book("a", moves)
            other = Stand("a", ((0, 0, "a", 1), (5, 5, "a", 1)))
            try:
                self.assert_paper(book, NONE, other, verdict(book, NONE, other, 0, 1), "script")
            except TooFar:
                self.assertFalse(leads_in_frame(book, other, (0, 0, 5, 5)))

    def test_kinds_differ(self):
        for book, one, other in [(BARS, ONE, ZERO), (BARS, ZERO, ONE), (BARS, ZERO, ZERO), (SWAP, ONE, ONE), (SWAP, NONE, Stand("ab"))]:
            for asked in (verdict, is_led):
                with self.assertRaises(OtherKinds):
                    asked(book, one, other, 0, 1)

    def test_by_name(self):
        self.assertEqual(verdict(book=STEP, one=ONE, other=ONE, most=0, sides=1), ("script", ()))
        self.assertIs(is_led(book=STEP, one=ONE, other=ONE, most=0, sides=1), True)

    def test_is_led(self):
        self.assertIs(is_led(STEP, ONE, ONE.moved((4, 0)), 0, 1), True)
        self.assertIs(is_led(STEP, ONE.moved((4, 0)), ONE, 0, 1), True)
        self.assertIs(is_led(STEP, ONE, ONE.moved((3, 0)), 0, 2), False)
        with self.assertRaises(TooFar) as caught:
            is_led(STEP, ONE, ONE.moved((3, 0)), 2, 1)
        self.assertEqual((caught.exception.most, caught.exception.sides), (2, 1))

    def test_leads_back_and_on(self):
        source = random.Random(6)
        for _ in range(60):
            book = some_book(source, "a", 2, 2)
            one = Stand("a", some_entries(source, "a", 3, 2))
            two = Stand("a", some_entries(source, "a", 3, 2))
            three = Stand("a", some_entries(source, "a", 3, 2))
            told = []
            for begin, end in [(one, two), (two, one), (two, three), (one, three)]:
                try:
                    told.append(is_led(book, begin, end, 1, 4))
                except TooFar:
                    told.append(None)
            self.assertEqual(told[0], told[1])
            if told[0] is True and told[2] is not None:
                self.assertIn(told[3], (told[2], None))

    def test_defined_here(self):
        for name in ("frame_of", "verdict", "is_led", "script_holds", "colouring_holds", "verdict_holds", "covers", "covers_holds"):
            self.assertEqual(getattr(verdicts, name).__module__, "sheetmoves.verdicts")


if __name__ == "__main__":
    unittest.main()
