"""Promise [19]: findings."""

import random
import unittest

from sheetmoves import findings
from sheetmoves.boards import Board
from sheetmoves.books import Book
from sheetmoves.colourings import weight_far
from sheetmoves.errors import TooFar
from sheetmoves.findings import finding_holds
from sheetmoves.rounds import round_of
from sheetmoves.stands import Stand
from sheetmoves.verdicts import covers, verdict

from sheets import (
    BARS, LEAP, NONE, ONE, STEP, SWAP, any_values, is_plainly_of, otherwise, right_colouring, right_covers,
    right_round, right_script, some_book, some_entries, told_sizes,
)
THREES = (3, 3, 1, (((0, 1, 2),),))
WALL = Stand("a", tuple((x, y, "a", 1) for x in range(5) for y in range(3)))
FAR = ((10 ** 40 - 1, 1, 0), (7, -10 ** 9, 10 ** 9))


def right_findings():
    """Findings that hold, one of each sort and more."""
    dot = Book("a", (("dot", ((0, 0, "a", 1),)),))
    return [
        ("leads", str(STEP), str(ONE), str(ONE.moved((4, 0))), (("step", 0, 0, 1), ("step", 2, 0, 1))),
        ("leads", str(BARS), str(NONE), str(WALL), verdict(BARS, NONE, WALL, 0, 1)[1]),
        ("leads", str(BARS), str(ONE), str(ONE), ()),
        ("barred", str(STEP), str(ONE), str(ONE.moved((3, 0))), (2, 2, 1, (((0, 1),),))),
        ("barred", str(BARS), str(ONE), str(ONE.moved((1, 0))), THREES),
        ("covers", str(dot), str(STEP), covers(dot, STEP, 0, 1)),
        ("covers", str(BARS), str(dot), covers(BARS, dot, 0, 1)),
        ("round", str(BARS), 3, 3, round_of(BARS, 3, 3, 0, 1)),
        ("round", str(BARS), 3, 1, round_of(BARS, 3, 1, 0, 3)),
        ("order", str(LEAP), 3, 3, str(ONE), 2),
        ("order", str(LEAP), 1, 1, str(ONE), 1),
        ("order", str(STEP), 1, 1, str(ONE), None),
        ("order", str(BARS), 1, 1, str(ONE * 10 ** 40), 3),
        ("great", str(BARS), str(ONE), ((10 ** 30 + 1, 1, 0),), THREES),
        ("great", str(BARS), str(ONE.moved((1, 0))), (), THREES),
        ("great", str(BARS), str(ONE), FAR, THREES),
    ]


def plain_read(kind_of, text):
    """The book or the stand with a text, or None."""
    try:
        return kind_of.read(text)
    except Exception:
        return None


class TestFindings(unittest.TestCase):
    def test_right_ones(self):
        for thing in right_findings()[:-1]:
            with self.subTest(thing):
                self.assertIs(finding_holds(thing), True)
        self.assertIs(finding_holds(right_findings()[-1]), weight_far(THREES, ONE, FAR) != 0)

    def test_wrong_ones(self):
        for thing in [
            ("leads", str(STEP), str(ONE), str(ONE.moved((2, 0))), (("step", 0, 0, 1), ("step", 2, 0, 1))),
            ("leads", str(STEP), str(ONE.moved((4, 0))), str(ONE), (("step", 0, 0, 1), ("step", 2, 0, 1))),
            ("leads", str(STEP), str(ONE), str(ONE.moved((4, 0))), (("step", 2, 0, 1), ("step", 0, 0, 1))),
            ("leads", str(STEP), str(ONE), str(ONE.moved((4, 0))), ((2, 2, 0, (("step", 0, 0, 1),)),)),
            ("leads", str(STEP), str(ONE), str(ONE.moved((4, 0))), ("script", (("step", 0, 0, 1), ("step", 2, 0, 1)))),
            ("barred", str(STEP), str(ONE), str(ONE.moved((4, 0))), (2, 2, 1, (((0, 1),),))),
            ("barred", str(BARS), str(ONE), str(ONE.moved((3, 0))), (2, 2, 1, (((0, 1),),))),
            ("barred", str(STEP), str(ONE), str(ONE.moved((3, 0))), ("colouring", (2, 2, 1, (((0, 1),),)))),
            ("order", str(LEAP), 3, 3, str(ONE), 4),
            ("order", str(LEAP), 3, 3, str(ONE), None),
            ("order", str(STEP), 1, 1, str(ONE), 0),
            ("order", str(LEAP), 1, 1, str(ONE), True),
            ("order", str(LEAP), True, 1, str(ONE), 1),
            ("order", str(LEAP), 1, 0, str(ONE), 1),
            ("order", str(LEAP), -3, 3, str(ONE), 2),
            ("order", str(LEAP), "3", 3, str(ONE), 2),
            ("order", str(LEAP), 10 ** 399, 10 ** 399, str(ONE), 2),
            ("round", str(BARS), 3, 3, round_of(BARS, 3, 1, 0, 3)),
            ("round", str(BARS), 0, 3, round_of(BARS, 3, 1, 0, 3)),
            ("round", str(BARS), 3, True, round_of(BARS, 3, 1, 0, 3)),
            ("great", str(BARS), str(ONE), ((10 ** 30, 1, 0),), THREES),
            ("great", str(BARS), str(ONE), ((0, 1, 0),), THREES),
            ("great", str(BARS), str(ONE), (), THREES),
            ("great", str(STEP), str(ONE), ((10 ** 30 + 1, 1, 0),), THREES),
        ]:
            with self.subTest(thing):
                self.assertIs(finding_holds(thing), False)

    def test_steps(self):
        stand = str(ONE.moved((1, 0)))
        for steps, right in [((), True), (((1, 5, 5),), True), (((1, 5, 5),) * 3, True), (((1, 5, 5),) * 4, False), ([], False),
                             ([(1, 5, 5)], False), (([1, 5, 5],), False), (((1, 5),), False), (((1, 5, 5, 5),), False), (((-1, 5, 5),), False),
                             (((True, 5, 5),), False), (((1, False, 5),), False), (((1, 5, None),), False), ((1, 5, 5), False), (None, False),
                             (((3 * 10 ** 39 + 1, 3, 1),), True), (((0, 5, 5),), False), (((1, "5", 5),), False)]:
            with self.subTest(steps):
                self.assertIs(finding_holds(("great", str(BARS), stand, steps, THREES)), right)

    def test_texts(self):
        for thing in right_findings()[:-1]:
            for at, part in enumerate(thing):
                if at > 0 and isinstance(part, str):
                    for text in [part + "\n", part + " ", "\n" + part, part.replace("kinds a", "kinds b"), part.replace("kinds a", "kinds ab"), "",
                                 part.replace(" ", "  "), part.replace("\n", ";"), part + "\n0 0 a 0", part[:-1], part.upper(), None, 0, [part], (part,)]:
                        if text != part and plain_read(Book, text) is None and plain_read(Stand, text) is None:
                            self.assertIs(finding_holds(thing[:at] + (text,) + thing[at + 1:]), False)
                    for other in (BARS, ONE, Stand.read(str(ONE))):
                        self.assertIs(finding_holds(thing[:at] + (other,) + thing[at + 1:]), False)

    def test_kinds_differ(self):
        two = str(Stand("ab"))
        other = str(SWAP)
        for thing in [("leads", str(STEP), two, two, ()), ("leads", str(STEP), str(ONE), two, ()), ("leads", str(STEP), two, str(ONE), ()),
                      ("leads", other, str(ONE), str(ONE), ()), ("barred", str(BARS), two, str(ONE), THREES), ("barred", str(BARS), str(ONE), two, THREES),
                      ("barred", other, str(ONE), str(ONE.moved((1, 0))), THREES), ("covers", other, str(STEP), ("covers", ((),))),
                      ("covers", str(STEP), other, ("covers", ((),) * 4)), ("order", str(STEP), 1, 1, two, 1), ("order", other, 1, 1, str(NONE), 1),
                      ("great", str(BARS), str(Stand("b", ((1, 0, "b", 1),))), (), THREES), ("great", str(BARS), two, (), THREES)]:
            with self.subTest(thing):
                self.assertIs(finding_holds(thing), False)
        self.assertIs(finding_holds(("leads", other, two, two, ())), True)
        self.assertIs(finding_holds(("order", other, 1, 1, two, 1)), True)

    def test_any_values(self):
        for thing in any_values():
            self.assertIs(finding_holds(thing), False)
            for right in right_findings():
                for at in range(len(right)):
                    made = right[:at] + (thing,) + right[at + 1:]
                    self.assertIs(finding_holds(made), self.expected(made), made)

    def test_forms(self):
        for thing in right_findings()[:-1]:
            for other in [list(thing), thing + (None,), thing + ((),), thing[:-1], thing[1:], (thing,), (thing[0],), thing[::-1],
                          (thing[0].upper(),) + thing[1:], (thing[0] + "s",) + thing[1:], ([thing[0]],) + thing[1:], {thing[0]: thing[1:]}]:
                self.assertIs(finding_holds(other), False)
            for word in ("leads", "barred", "covers", "round", "order", "great", "script", "colouring"):
                if word != thing[0]:
                    self.assertIs(finding_holds((word,) + thing[1:]), False)

    def test_one_part_otherwise(self):
        for thing in right_findings()[:-1]:
            if len(repr(thing)) < 600:
                for other in otherwise(thing):
                    self.assertIs(finding_holds(other), self.expected(other), other)

    def expected(self, thing):
        """Whether a finding holds, told without the package but for what reads texts, boards and great stands."""
        if type(thing) is not tuple or not thing or type(thing[0]) is not str:
            return False
        book = plain_read(Book, thing[1]) if len(thing) > 1 else None
        if book is None:
            return False
        stands = [plain_read(Stand, text) for text in thing[2:4]]
        if thing[0] in ("leads", "barred") and len(thing) == 5:
            if None in stands or any(stand.kinds != book.kinds for stand in stands):
                return False
            check = right_script if thing[0] == "leads" else right_colouring
            return check(book, stands[1] - stands[0], thing[4])
        if thing[0] == "order" and len(thing) == 6:
            stand = plain_read(Stand, thing[4])
            if not all(type(side) is int and side >= 1 for side in thing[2:4]) or stand is None or stand.kinds != book.kinds:
                return False
            if not (thing[5] is None or type(thing[5]) is int) or thing[2] * thing[3] > 100:
                return False
            return Board(book, thing[2], thing[3]).order(stand) == thing[5]
        if thing[0] == "great" and len(thing) == 5:
            stand, steps = stands[0], thing[3]
            if stand is None or stand.kinds != book.kinds or type(steps) is not tuple or len(steps) > 3:
                return False
            if not all(type(step) is tuple and len(step) == 3 and all(type(n) is int for n in step) and step[0] >= 0 for step in steps):
                return False
            return is_plainly_of(book, thing[4]) and weight_far(thing[4], stand, steps) != 0
        return self.expected_of_papers(book, thing)

    def expected_of_papers(self, book, thing):
        """The same for the findings "covers" and "round"."""
        if thing[0] == "covers" and len(thing) == 4 and plain_read(Book, thing[2]) is not None:
            other = Book.read(thing[2])
            return other.kinds == book.kinds and right_covers(book, other, thing[3])
        if thing[0] == "round" and len(thing) == 5 and all(type(side) is int and side >= 1 for side in thing[2:4]):
            return right_round(book, thing[2], thing[3], thing[4])
        return False

    def test_what_the_package_returns(self):
        source = random.Random(1)
        seen = {"script": 0, "colouring": 0}
        for _ in range(150):
            kinds, most, sides, wide, high = told_sizes(source)
            book = some_book(source, kinds, 2, 2)
            one = Stand(kinds, some_entries(source, kinds, wide, high, 4))
            other = Stand(kinds, some_entries(source, kinds, wide, high, 4))
            try:
                word, part = verdict(book, one, other, most, sides)
            except TooFar:
                continue
            seen[word] += 1
            texts = (str(book), str(one), str(other))
            self.assertIs(finding_holds(("leads", *texts, part)), word == "script")
            self.assertIs(finding_holds(("barred", *texts, part)), word == "colouring")
            board = Board(book, source.randrange(1, 4), source.randrange(1, 3))
            for number in (board.order(one), None, 1, 2):
                expected = board.order(one) == number
                self.assertIs(finding_holds(("order", texts[0], board.a, board.b, texts[1], number)), expected)
            if word == "colouring":
                steps = tuple((source.randrange(9), source.randrange(-9, 9), source.randrange(-9, 9)) for _ in range(source.randrange(4)))
                self.assertIs(finding_holds(("great", texts[0], texts[1], steps, part)), weight_far(part, one, steps) != 0)
        self.assertGreater(min(seen.values()), 15)

    def test_by_name(self):
        self.assertIs(finding_holds(thing=right_findings()[0]), True)
        self.assertEqual(findings.finding_holds.__module__, "sheetmoves.findings")


if __name__ == "__main__":
    unittest.main()
