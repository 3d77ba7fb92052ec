"""Promises [17] and [18]: round_of, round_holds and Rounds."""

import random
import unittest

from sheetmoves import rounds
from sheetmoves.boards import Board
from sheetmoves.books import Book
from sheetmoves.colourings import is_of, weight
from sheetmoves.errors import BadRound, OtherKinds, TooFar
from sheetmoves.rounds import Rounds, round_holds, round_of
from sheetmoves.scripts import change, is_script, undone
from sheetmoves.stands import Stand
from sheetmoves.verdicts import verdict

from sheets import (
    BARS, LEAP, NONE, ONE, STEP, SWAP, any_values, otherwise, right_colouring, right_round, some_entries,
    steps_of, unlike_on_board,
)

PRIME = 2 ** 61 - 1
BOTH = Book("a", (("across", ((5, 0, "a", -1), (7, 0, "a", 1))), ("up", ((0, -9, "a", 2), (0, -6, "a", -2))),
                  ("upodd", ((0, 0, "a", 3), (0, 3, "a", -3)))))
# Six of one kind are one of the other one, and four of the other one are nothing.
COINS = Book("ab", (("four", ((0, 0, "b", 4),)), ("pay", ((0, 0, "a", 6), (0, 0, "b", -1))),
                    ("right", ((0, 0, "a", 1), (2, 0, "a", -1))), ("up", ((0, 0, "a", -1), (0, 1, "a", 1)))))
# Three kinds that are worth the same, and the opposite of it one cell further up.
SIGNS = Book("abc", (("p", ((0, 0, "a", 1), (0, 0, "b", -1))), ("q", ((-7, 0, "b", -1), (-7, 0, "c", 1))),
                     ("x", ((0, 5, "a", -1), (2, 5, "a", 1))), ("y", ((0, 0, "a", 1), (0, 1, "a", 1)))))
# Each kind is worth nine times the one ahead of it, a cell three times nine times as much as the one below.
NINES = (Book("abc", (("pb", ((0, 0, "a", 9), (0, 0, "b", -1))), ("pc", ((0, 0, "b", 9), (0, 0, "c", -1))), ("ya", ((0, 0, "c", 9), (0, 1, "a", -1)))))
         | Book("abc", (("x", ((0, 0, "a", -1), (1, 0, "a", 1))), ("y", ((0, 0, "a", -1), (0, 3, "a", 1))))))


def papers():
    """Books that come round, with their sides and papers."""
    found = []
    for book, a, b, most in [(BARS, 3, 3, 0), (BARS, 3, 6, 0), (BARS, 6, 3, 0), (BOTH, 2, 3, 0), (BOTH, 4, 3, 0), (SWAP, 2, 1, 1),
                             (SWAP, 2, 3, 1), (COINS, 2, 1, 0), (COINS, 4, 2, 0), (SIGNS, 2, 2, 0), (SIGNS, 4, 2, 0), (NINES, 1, 3, 0)]:
        found.append((book, a, b, round_of(book, a, b, most, 1)))
    return found


def powers(step, many):
    """The sum of the powers of a number from 0 to many - 1, modulo the prime."""
    if step == 1:
        return many % PRIME
    return (pow(step, many, PRIME) - 1) * pow(step - 1, -1, PRIME) % PRIME


def worth(book, deeds, at):
    """What a script with loops adds of each kind, with cells (x, y) worth X^x Y^y modulo the prime."""
    across, upward = at
    total = dict.fromkeys(book.kinds, 0)
    for first, x, y, last in deeds:
        if isinstance(first, str):
            for right, up, kind, number in dict(book.moves)[first]:
                total[kind] += last * number * pow(across, x + right, PRIME) * pow(upward, y + up, PRIME)
        else:
            step = pow(across, x, PRIME) * pow(upward, y, PRIME) % PRIME
            many = powers(step, first)
            for kind, number in worth(book, last, at).items():
                total[kind] += many * number
    return {kind: number % PRIME for kind, number in total.items()}


def worth_of(stand, at):
    total = dict.fromkeys(stand.kinds, 0)
    for x, y, kind, number in stand.entries:
        total[kind] += number * pow(at[0], x, PRIME) * pow(at[1], y, PRIME)
    return {kind: number % PRIME for kind, number in total.items()}


def some_stand(source, kinds, far):
    found = {}
    for _ in range(source.randrange(1, 6)):
        cell = (source.randrange(-far, far + 1), source.randrange(-far, far + 1), source.choice(kinds))
        found[cell] = source.choice((-1, 1)) * source.randrange(1, source.choice((4, 10 ** 40)))
    return Stand(kinds, tuple(sorted((*cell, number) for cell, number in found.items())))


def repeated(stand, steps):
    """A stand repeated by steps, one after the other."""
    for many, dx, dy in steps:
        total = Stand(stand.kinds)
        for k in range(many):
            total = total + stand.moved((k * dx, k * dy))
        stand = total
    return stand


class TestRoundOf(unittest.TestCase):
    def test_worked_out(self):
        self.assertEqual(round_of(BARS, 3, 3, 0, 1),
                         ("round", (((("lie", 0, 0, -1), ("lie", 1, 0, 1)), (("stand", 0, 0, -1), ("stand", 0, 1, 1))),)))
        self.assertEqual(round_of(SWAP, 2, 1, 1, 1)[0], "round")
        word, kind, side, colouring = round_of(LEAP, 1, 1, 0, 3)
        self.assertEqual((word, kind, side), ("loose", "a", "x"))
        word, kind, side, colouring = round_of(BARS, 3, 1, 0, 3)
        self.assertEqual((word, kind, side), ("loose", "a", "y"))
        self.assertIs(right_colouring(BARS, Stand("a", ((0, 0, "a", -1), (0, 1, "a", 1))), colouring), True)

    def test_kind_by_kind(self):
        book = Book("ab", (("a", ((0, 0, "a", 1),)), ("b", ((0, 0, "b", 1), (1, 0, "b", 1)))))
        self.assertEqual(round_of(book, 1, 1, 0, 2)[:3], ("loose", "b", "x"))
        self.assertEqual(round_of(book, 2, 1, 0, 2)[:3], ("loose", "b", "y"))
        other = Book("ab", (("a", ((0, 0, "a", 2),)), ("b", ((0, 0, "b", 2),))))
        self.assertEqual(round_of(other, 1, 1, 0, 2)[:3], ("loose", "a", "x"))

    def test_stops_at_what_raises(self):
        # Of kind a nothing is decided with sides 1; of kind b "loose" would be found only later.
        book = Book("ab", (("b", ((0, 0, "b", 1),)), ("two", ((0, 0, "a", -1), (2, 0, "a", 1)))))
        with self.assertRaises(TooFar) as caught:
            round_of(book, 1, 1, 1, 1)
        self.assertEqual((caught.exception.most, caught.exception.sides), (1, 1))
        self.assertEqual(round_of(book, 1, 1, 1, 2)[:3], ("loose", "a", "x"))
        with self.assertRaises(TooFar):
            round_of(book, 2, 1, 1, 1)
        self.assertEqual(round_of(book, 2, 1, 0, 2)[:3], ("loose", "a", "y"))

    def test_asks_verdict(self):
        source = random.Random(1)
        seen = {"round": 0, "loose": 0, "far": 0}
        for _ in range(200):
            kinds = source.choice(("a", "ab"))
            moves = [("x" + kind, ((0, 0, kind, -1), (source.randrange(1, 3), 0, kind, 1))) for kind in kinds if source.random() < 0.8]
            moves += [("y" + kind, ((0, 0, kind, -1), (0, 1, kind, 1))) for kind in kinds if source.random() < 0.8]
            if not moves:
                continue
            book = Book(kinds, tuple(sorted(moves)))
            a, b, sides = source.randrange(1, 4), source.randrange(1, 3), source.randrange(1, 4)
            words = []
            for _, _, stand in steps_of(book, a, b):
                try:
                    words.append(verdict(book, Stand(kinds), stand, 0, sides)[0])
                except TooFar:
                    words.append("far")
                if words[-1] != "script":
                    break
            try:
                paper = round_of(book, a, b, 0, sides)
            except TooFar:
                self.assertEqual(words[-1], "far")
                seen["far"] += 1
                continue
            seen[paper[0]] += 1
            self.assertIs(right_round(book, a, b, paper), True)
            self.assertIs(round_holds(book, a, b, paper), True)
            if paper[0] == "loose":
                self.assertEqual(words[-1], "colouring")
                self.assertEqual(paper[1:3], steps_of(book, a, b)[len(words) - 1][:2])
            else:
                self.assertEqual(words, ["script"] * (2 * len(kinds)))
        self.assertGreater(min(seen.values()), 5)

    def test_long_sides(self):
        paper = round_of(BOTH, 34, 3, 0, 1)
        self.assertIs(right_round(BOTH, 34, 3, paper), True)
        self.assertEqual(round_of(BOTH, 35, 3, 0, 2)[:3], ("loose", "a", "x"))

    def test_by_name(self):
        self.assertEqual(round_of(book=BARS, a=3, b=3, most=0, sides=1)[0], "round")
        self.assertIs(round_holds(book=BARS, a=3, b=3, thing=None), False)


class TestRoundHolds(unittest.TestCase):
    def test_papers_with_one_part_otherwise(self):
        loose = [(book, a, b, round_of(book, a, b, 0, sides)) for book, a, b, sides in
                 [(BARS, 3, 1, 3), (BARS, 2, 3, 3), (STEP, 3, 1, 2), (LEAP, 1, 2, 3), (SWAP, 1, 1, 2)]]
        for book, a, b, paper in papers()[:2] + papers()[3:4] + papers()[5:6] + papers()[7:8] + papers()[9:10] + loose:
            self.assertIs(right_round(book, a, b, paper), True)
            self.assertIs(round_holds(book, a, b, paper), True)
            for thing in otherwise(paper):
                expected = right_round(book, a, b, thing)
                self.assertIs(round_holds(book, a, b, thing), expected, thing)
                if not expected or thing[0] == "loose":
                    with self.assertRaises(BadRound):
                        Rounds(book, a, b, thing)

    def test_other_sides(self):
        paper = round_of(BARS, 3, 3, 0, 1)
        for a in range(1, 8):
            for b in range(1, 8):
                self.assertIs(round_holds(BARS, a, b, paper), (a, b) == (3, 3))

    def test_loose(self):
        colouring = (3, 3, 1, (((0, 1, 2),),))
        for a, b in [(1, 1), (2, 5), (4, 2), (3, 1), (6, 3)]:
            self.assertIs(round_holds(BARS, a, b, ("loose", "a", "x", colouring)), a % 3 != 0)
            self.assertIs(round_holds(BARS, a, b, ("loose", "a", "y", colouring)), False)
        for kind, side in [("b", "x"), ("", "x"), ("aa", "x"), ("a", ""), ("a", "xy"), ("a", "z"), ("a", 0), (0, "x"), (["a"], "x"), ("a", ["x"])]:
            self.assertIs(round_holds(BARS, 1, 1, ("loose", kind, side, colouring)), False)
        swapping = (2, 2, 1, (((0, 1),), ((1, 0),)))
        for kind in ("ab", "", "c", None, True):
            self.assertIs(round_holds(SWAP, 1, 1, ("loose", kind, "x", swapping)), False)
        for kind in ("a", "b"):
            self.assertIs(round_holds(SWAP, 1, 1, ("loose", kind, "x", swapping)), True)

    def test_any_values(self):
        for thing in any_values():
            for value in [thing, ("round", thing), ("round", (thing,)), ("round", ((thing, thing),)), ("loose", "a", "x", thing), (thing, "a", "x", ())]:
                self.assertIs(round_holds(BARS, 3, 3, value), False)
                with self.assertRaises(BadRound) as caught:
                    Rounds(BARS, 3, 3, value)
                self.assertIs(caught.exception.paper, value)


class TestRounds(unittest.TestCase):
    def test_attributes(self):
        for book, a, b, paper in papers():
            found = Rounds(book, a, b, paper)
            self.assertEqual((found.book, found.a, found.b, found.paper), (book, a, b, paper))
            self.assertIsInstance(found.board, Board)
            self.assertEqual((found.board.book, found.board.a, found.board.b), (book, a, b))
            self.assertEqual((found.board.divisors, found.board.free), (Board(book, a, b).divisors, Board(book, a, b).free))

    def test_bad_rounds(self):
        loose = round_of(BARS, 2, 3, 0, 3)
        self.assertIs(round_holds(BARS, 2, 3, loose), True)
        for a, b, paper in [(2, 3, loose), (3, 3, loose), (2, 3, round_of(BARS, 3, 3, 0, 1)), (3, 3, None)]:
            with self.assertRaises(BadRound) as caught:
                Rounds(BARS, a, b, paper)
            self.assertIs(caught.exception.paper, paper)

    def test_worked_out(self):
        found = Rounds(BARS, 3, 3, round_of(BARS, 3, 3, 0, 1))
        self.assertIs(found.leads(ONE, ONE.moved((3 * 10 ** 8, -6))), True)
        self.assertIs(found.leads(ONE, ONE.moved((3 * 10 ** 8 + 1, -6))), False)
        self.assertIs(found.leads(NONE, Stand("a", ((0, 0, "a", 1), (1, 0, "a", 1), (10 ** 9 - 1, 0, "a", 1)))), (10 ** 9 - 1) % 3 == 2)
        coins = Rounds(COINS, 2, 1, round_of(COINS, 2, 1, 0, 1))
        one = Stand("ab", ((0, 0, "a", 1),))
        self.assertIs(coins.leads(one * 24, Stand("ab")), True)
        self.assertIs(coins.leads(one * 12, Stand("ab")), False)
        self.assertIs(coins.leads(one * 6, Stand("ab", ((10 ** 9, -10 ** 9, "b", 1),))), True)
        self.assertIs(coins.leads(one * 6, Stand("ab", ((10 ** 9 - 1, -10 ** 9, "b", 1),))), False)

    def test_a_stand_and_itself(self):
        for book, a, b, paper in papers():
            found = Rounds(book, a, b, paper)
            for stand in (Stand(book.kinds), Stand(book.kinds, ((10 ** 9, -10 ** 9, book.kinds[-1], 10 ** 40),))):
                self.assertIs(found.leads(stand, stand), True)
                self.assertIsNone(found.bar(stand, stand))
                way = found.way(stand, stand)
                self.assertIs(is_script(book, way), True)
                self.assertEqual(change(book, way), Stand(book.kinds))

    def assert_right(self, found, one, other):
        """leads, way and bar of two stands, told in unlike ways."""
        book = found.book
        leads = not unlike_on_board(book, other - one, found.a, found.b)
        self.assertIs(found.leads(one, other), leads)
        way, bar = found.way(one, other), found.bar(one, other)
        if not leads:
            self.assertIsNone(way)
            self.assertIs(is_of(book, bar), True)
            self.assertNotEqual(weight(bar, one), weight(bar, other))
            return leads
        self.assertIsNone(bar)
        self.assertIs(is_script(book, way), True)
        for at in [(3, 5), (10 ** 9 + 7, 2 ** 60 - 3), (123456789, 987654321)]:
            self.assertEqual(worth(book, way, at), worth_of(other - one, at))
        return leads

    def test_some_stands(self):
        source = random.Random(2)
        seen = {True: 0, False: 0}
        for book, a, b, paper in papers():
            found = Rounds(book, a, b, paper)
            for far in (3, 20, 10 ** 9):
                for _ in range(12):
                    one, other = some_stand(source, book.kinds, far), some_stand(source, book.kinds, far)
                    seen[self.assert_right(found, one, other)] += 1
                    # What is moved by multiples of the sides, and has moves added, leads there.
                    by = (source.randrange(-far, far + 1) * a, source.randrange(-far, far + 1) * b)
                    other = one.moved(by) + book[source.choice(book.names)].moved((far, -far)) * source.randrange(-10 ** 9, 10 ** 9)
                    seen[self.assert_right(found, one, other)] += 1
                    self.assertIs(found.leads(one, other), True)
        self.assertGreater(min(seen.values()), 100)

    def test_near_ways_written_out(self):
        source = random.Random(3)
        for book, a, b, paper in papers():
            found = Rounds(book, a, b, paper)
            for _ in range(10):
                far = (source.randrange(-10 ** 9, 10 ** 9), source.randrange(-10 ** 9, 10 ** 9))
                one = Stand(book.kinds, some_entries(source, book.kinds, 7, 7)).moved(far)
                other = one.moved((a * source.randrange(-2, 3), b * source.randrange(-2, 3)))
                other = other + book[book.names[0]].moved(far) * source.randrange(-3, 4)
                way = found.way(one, other)
                # Stands that are near one another need few deeds, wherever they lie.
                self.assertEqual(one + change(book, way), other)
                self.assertEqual(other + change(book, undone(way)), one)
                self.assertEqual(found.board.done(one, way), found.board.folded(other))

    def test_all_entries(self):
        source = random.Random(4)
        entries = tuple(sorted({(source.randrange(-10 ** 9, 10 ** 9), source.randrange(-10 ** 9, 10 ** 9), "a") for _ in range(400)}))
        one = Stand("a", tuple((*cell, source.randrange(1, 10 ** 40)) for cell in entries))
        found = Rounds(BARS, 3, 3, round_of(BARS, 3, 3, 0, 1))
        self.assertIs(self.assert_right(found, one, one.moved((3 * 10 ** 8, -3 * 10 ** 8))), True)
        self.assertIs(self.assert_right(found, one, one.moved((1, 0))), False)

    def test_boards_of_one_cell(self):
        book = Book("a", (("right", ((0, 0, "a", -1), (1, 0, "a", 1))), ("six", ((3, 3, "a", 6),)), ("up", ((0, 0, "a", -1), (0, 1, "a", 1)))))
        found = Rounds(book, 1, 1, round_of(book, 1, 1, 0, 1))
        source = random.Random(5)
        for _ in range(30):
            self.assert_right(found, some_stand(source, "a", 10 ** 9), some_stand(source, "a", 9))
        self.assertEqual(found.least(ONE, (5, 7)), 6)
        self.assertEqual(found.least(ONE, (0, 0), ((4, 1, 1),)), 3)
        self.assertEqual(found.least(ONE * 6, (0, 0)), 1)

    def test_papers_of_others(self):
        # Scripts far from each other, made as somebody else may have made them.
        round_trip = (("lie", 50, 50, 1), ("lie", 50, 51, 1), ("lie", 50, 52, 1),
                      ("stand", 50, 50, -1), ("stand", 51, 50, -1), ("stand", 52, 50, -1))
        pair = (tuple(sorted((("lie", 0, 0, -1), ("lie", 1, 0, 1)) + round_trip)), (("stand", 0, 0, -1), ("stand", 0, 1, 1)))
        found = Rounds(BARS, 3, 3, ("round", (pair,)))
        source = random.Random(6)
        for _ in range(10):
            one = some_stand(source, "a", 10 ** 9)
            self.assertIs(self.assert_right(found, one, one.moved((-3 * 10 ** 8, 6))), True)

    def test_kinds_differ(self):
        found = Rounds(BARS, 3, 3, round_of(BARS, 3, 3, 0, 1))
        other = Stand("b")
        for asked in (found.leads, found.way, found.bar):
            for one, two in [(ONE, other), (other, ONE), (other, other)]:
                with self.assertRaises(OtherKinds):
                    asked(one, two)
        with self.assertRaises(OtherKinds):
            found.least(other, (1, 0))
        with self.assertRaises(OtherKinds):
            found.least(other, (1, 0), ((0, 1, 1),))

    def test_by_name(self):
        found = Rounds(book=BARS, a=3, b=3, paper=round_of(BARS, 3, 3, 0, 1))
        self.assertIs(found.leads(one=ONE, other=ONE), True)
        self.assertEqual(found.way(one=ONE, other=ONE), ())
        self.assertIsNone(found.bar(one=ONE, other=ONE))
        self.assertEqual(found.least(stand=ONE, by=(1, 0), steps=()), 3)

    def test_methods_of_the_class_itself(self):
        for name in ("board", "leads", "way", "bar", "least"):
            self.assertIn(name, vars(Rounds))
        for name in ("round_of", "round_holds", "Rounds"):
            self.assertEqual(getattr(rounds, name).__module__, "sheetmoves.rounds")


class TestLeast(unittest.TestCase):
    def test_worked_out(self):
        found = Rounds(BARS, 3, 3, round_of(BARS, 3, 3, 0, 1))
        self.assertEqual(found.least(ONE, (1, 0)), 3)
        self.assertEqual(found.least(ONE, (1, 0), ((4, 0, 1),)), 3)
        self.assertEqual(found.least(ONE, (1, 0), ((6, 0, 1),)), 1)
        self.assertEqual(found.least(ONE, (1, 0), ((10 ** 40, 0, 1),)), 3)
        self.assertEqual(found.least(ONE, (1, 0), ((10 ** 40 - 1, 0, 1),)), 1)
        self.assertEqual(found.least(ONE, (-10 ** 9, 0)), 3)
        self.assertIsNone(found.least(ONE, (0, 0)))
        self.assertIsNone(found.least(ONE, (3, 6)))
        # Three cells along a slope are nothing in no colouring of rows, so no number of them leads to nothing.
        self.assertIsNone(found.least(ONE, (1, 1)))
        self.assertEqual(found.least(NONE, (0, 0)), 1)
        self.assertEqual(found.least(ONE, (0, 0), ((0, 5, 5),)), 1)
        self.assertEqual(found.least(ONE, (0, 0), ((10 ** 40, 1, 1), (0, 0, 0), (7, 1, 2))), 1)

    def test_coins(self):
        found = Rounds(COINS, 2, 1, round_of(COINS, 2, 1, 0, 1))
        a, b = Stand("ab", ((0, 0, "a", 1),)), Stand("ab", ((0, 0, "b", 1),))
        self.assertEqual(found.least(a, (2, 7)), 24)
        self.assertEqual(found.least(b, (2, 7)), 4)
        self.assertEqual(found.least(a, (1, 0)), 48)
        self.assertEqual(found.least(a, (0, 0), ((10 ** 40, 2, 0),)), 24 // 8)
        self.assertEqual(found.least(a - a.moved((1, 0)), (1, 0)), 2)
        self.assertEqual(found.least(a * 2 - a.moved((1, 0)), (10 ** 9 + 1, 5)), 48)
        self.assertEqual(found.least(a, (1, 0), ((2, 1, 0), (12, 2, 0))), 2)

    def test_great_orders(self):
        # Far too many to be counted up to.
        found = Rounds(NINES, 1, 3, round_of(NINES, 1, 3, 0, 1))
        one = Stand("abc", ((0, 0, "a", 1),))
        order = 9 ** 9 - 1
        self.assertEqual(found.board.order(one), order)
        self.assertEqual(found.least(one, (0, 0)), order)
        self.assertEqual(found.least(one, (10 ** 9, -9)), order)
        self.assertEqual(found.least(Stand("abc", ((5, 5, "c", 1),)), (1, 0)), order)
        # 1 + 729 + 729 ** 2 is the order divided by 728.
        self.assertEqual(found.least(one, (0, 1)), 3 * 728)
        self.assertEqual(found.least(one, (0, -10 ** 9)), 3 * 728)
        self.assertEqual(found.least(one * 728, (0, 1)), 3)
        self.assertEqual(found.least(one * 91, (0, 2)), 3 * 8)
        self.assertEqual(found.least(one, (0, 1), ((3, 0, 1),)), 3 * 728 // 3)

    def test_against_counting(self):
        source = random.Random(8)
        seen = {True: 0, False: 0}
        for book, a, b, paper in papers():
            found = Rounds(book, a, b, paper)
            for _ in range(16):
                stand = Stand(book.kinds, some_entries(source, book.kinds, 4, 4, 3, 4)).moved((source.randrange(-10 ** 9, 10 ** 9), 5))
                by = (source.randrange(-9, 10), source.randrange(-9, 10))
                steps = tuple((source.randrange(0, 5), source.randrange(-9, 10), source.randrange(-9, 10)) for _ in range(source.randrange(4)))
                great = repeated(stand, steps)
                least = found.least(stand, by, steps)
                total = Stand(book.kinds)
                right = []
                for n in range(1, 61):
                    total = total + great.moved(((n - 1) * by[0], (n - 1) * by[1]))
                    if found.leads(total, Stand(book.kinds)):
                        right.append(n)
                if least is not None and least <= 60:
                    self.assertEqual(right, list(range(least, 61, least)))
                else:
                    self.assertEqual(right, [])
                seen[least is None] += 1
        self.assertGreater(min(seen.values()), 20)

    def test_great_repetitions(self):
        source = random.Random(9)
        for book, a, b, paper in papers():
            found = Rounds(book, a, b, paper)
            for _ in range(10):
                stand = Stand(book.kinds, some_entries(source, book.kinds, 4, 4, 3, 4))
                steps = tuple((source.randrange(0, 10 ** 40), source.randrange(-10 ** 9, 10 ** 9), source.randrange(-10 ** 9, 10 ** 9)) for _ in range(3))
                by = (source.randrange(-10 ** 9, 10 ** 9), source.randrange(-10 ** 9, 10 ** 9))
                least = found.least(stand, by, steps)
                # A whole round of each step is a stand of its own, so many of them and a rest do as well.
                turn = a * b
                folded = found.board.folded(stand)
                for many, dx, dy in steps:
                    rest, whole = many % turn, many // turn
                    folded = found.board.folded(repeated(folded, ((turn, dx, dy),)) * whole + repeated(folded, ((rest, dx, dy),)))
                self.assertEqual(found.least(folded, by), least)
                self.assertEqual(found.least(stand, (0, 0), steps), found.least(folded, (0, 0)))
                if least is not None:
                    total = repeated(folded, ((turn, *by),)) * (least // turn) + repeated(folded, ((least % turn, *by),))
                    self.assertIs(found.leads(total, Stand(book.kinds)), True)


if __name__ == "__main__":
    unittest.main()
