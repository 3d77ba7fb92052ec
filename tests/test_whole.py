"""Promises [1], [2], [3] and [16], over the whole program."""

import inspect
import random
import unittest

from sheetmoves import boards, books, colourings, console, errors, findings, rounds, scripts, stands, verdicts
from sheetmoves.boards import Board
from sheetmoves.books import Book
from sheetmoves.colourings import is_of, moved_colouring, weight, weight_far
from sheetmoves.errors import OtherKinds, TooFar
from sheetmoves.findings import finding_holds
from sheetmoves.rounds import Rounds, round_of
from sheetmoves.scripts import change, is_laid, is_script, laid, undone
from sheetmoves.stands import Stand
from sheetmoves.verdicts import colouring_holds, covers, covers_holds, script_holds, verdict, verdict_holds

from sheets import BARS, LEAP, NINES, NONE, ONE, STEP, SWAP, TURNS, some_book, some_entries

FUNCTIONS = {
    stands: {"is_kinds": "thing"},
    books: {"is_name": "thing"},
    scripts: {"is_script": "book thing", "is_laid": "book thing", "change": "book deeds", "laid": "book deeds", "undone": "deeds",
              "within": "book deeds frame"},
    colourings: {"is_colouring": "kinds thing", "weight": "colouring stand", "weight_far": "colouring stand steps", "is_of": "book thing",
                 "moved_colouring": "colouring by"},
    verdicts: {"frame_of": "one other most", "verdict": "book one other most sides", "is_led": "book one other most sides",
               "script_holds": "book one other thing", "colouring_holds": "book one other thing", "verdict_holds": "book one other thing",
               "covers": "book other most sides", "covers_holds": "book other thing"},
    rounds: {"round_of": "book a b most sides", "round_holds": "book a b thing"},
    findings: {"finding_holds": "thing"},
}
METHODS = {
    stands.Stand: {"__init__": "kinds entries", "__add__": "other", "__sub__": "other", "__mul__": "other", "moved": "by", "__getitem__": "at",
                   "__contains__": "x", "__len__": "", "__eq__": "other", "__str__": ""},
    books.Book: {"__init__": "kinds moves", "__getitem__": "at", "__len__": "", "__eq__": "other", "__or__": "other", "without": "names",
                 "renamed": "names", "turned": "", "mirrored": "", "__str__": ""},
    boards.Board: {"__init__": "book a b", "folded": "stand", "done": "stand deeds", "alike": "one other", "order": "stand", "many": "m", "tells": "one other"},
    rounds.Rounds: {"__init__": "book a b paper", "leads": "one other", "way": "one other", "bar": "one other", "least": "stand by steps"},
    console.Console: {"__init__": "", "run": "command"},
}
PROPERTIES = {stands.Stand: ["box"], books.Book: ["names"], boards.Board: ["divisors", "free"], rounds.Rounds: ["board"]}


class TestInterface(unittest.TestCase):
    def test_functions(self):
        for module, functions in FUNCTIONS.items():
            for name, parameters in functions.items():
                found = getattr(module, name)
                self.assertTrue(inspect.isfunction(found))
                self.assertEqual(found.__module__, module.__name__)
                self.assertEqual(list(inspect.signature(found).parameters), parameters.split())

    def test_methods(self):
        for made, methods in METHODS.items():
            for name, parameters in methods.items():
                found = vars(made)[name]
                self.assertEqual(list(inspect.signature(found).parameters), ["self"] + parameters.split(), (made, name))
        for made, names in PROPERTIES.items():
            for name in names:
                self.assertIsInstance(vars(made)[name], property)
        for made in (stands.Stand, books.Book):
            self.assertIsInstance(vars(made)["read"], classmethod)
        self.assertEqual(inspect.signature(rounds.Rounds.least).parameters["steps"].default, ())
        self.assertEqual(inspect.signature(stands.Stand).parameters["entries"].default, ())

    def test_errors(self):
        for name, parameters in {"BadStand": "part", "BadBook": "part", "BadText": "line", "BadScript": "part", "OtherKinds": "", "UnknownName": "name",
                                 "Clash": "name", "TooFar": "most sides", "BadRound": "paper", "NoBook": "", "InvalidCommand": ""}.items():
            found = getattr(errors, name)
            self.assertEqual(found.__bases__, (errors.SheetError,))
            raised = found(*[[word] for word in parameters.split()])
            for word in parameters.split():
                self.assertEqual(getattr(raised, word), [word])
        self.assertEqual(errors.SheetError.__bases__, (Exception,))


class TestOverview(unittest.TestCase):
    def test_rectangles_of_bars(self):
        def rectangle(wide, high):
            return Stand("a", tuple((x, y, "a", 1) for x in range(wide) for y in range(high)))

        paper = verdict(BARS, NONE, rectangle(3, 5), 0, 1)
        self.assertEqual(paper[0], "script")
        self.assertIs(verdict_holds(BARS, NONE, rectangle(3, 5), paper), True)
        # A colouring of 3 x 3 modulo 2 shows it of 4 x 5 cells.
        twos = (2, 3, 3, (((1, 0, 1), (0, 0, 0), (1, 0, 1)),))
        self.assertIs(colouring_holds(BARS, NONE, rectangle(4, 5), twos), True)
        self.assertIs(colouring_holds(BARS, NONE, rectangle(3, 5), twos), False)
        paper = verdict(BARS, NONE, rectangle(4, 5), 0, 3)
        self.assertEqual(paper[0], "colouring")
        self.assertIs(verdict_holds(BARS, NONE, rectangle(4, 5), paper), True)


class TestConventions(unittest.TestCase):
    def test_arguments_and_state_stay(self):
        book, one, other = Book("a", STEP.moves), Stand("a", ONE.entries), ONE.moved((3, 0))
        found = Rounds(BARS, 3, 3, round_of(BARS, 3, 3, 0, 1))
        board = Board(BARS, 3, 3)
        kept = [repr(book.moves), repr(one.entries), repr(other.entries), repr(found.paper), board.divisors, board.free]

        def answers():
            paper = verdict(book, one, other, 0, 2)
            return [paper, verdict(book, one, other.moved((1, 0)), 0, 2), covers(book, book, 0, 1), found.way(one, other), found.bar(one, other),
                    found.leads(one, other), found.least(one, (1, 0), ((4, 0, 1),)), verdict_holds(book, one, other, paper), board.tells(one, one.moved((1, 0))),
                    found.board.order(one), finding_holds(("leads", str(book), str(one), str(one), ())), change(BARS, found.way(one, other))]

        first = answers()
        self.assertEqual(first, answers())
        self.assertEqual(kept, [repr(book.moves), repr(one.entries), repr(other.entries), repr(found.paper), board.divisors, board.free])
        self.assertEqual((one, book), (ONE, STEP))

    def test_papers_are_plain(self):
        def assert_plain(value):
            self.assertIn(type(value), (str, int, tuple))
            if type(value) is tuple:
                for part in value:
                    assert_plain(part)

        found = Rounds(SWAP, 2, 1, round_of(SWAP, 2, 1, 1, 1))
        one = Stand("ab", ((0, 0, "a", 1),))
        for value in [verdict(STEP, ONE, ONE.moved((3, 0)), 0, 2), verdict(STEP, ONE, ONE.moved((2, 0)), 0, 2), covers(STEP, STEP, 0, 1),
                      covers(BARS, STEP, 0, 3), found.paper, round_of(LEAP, 1, 1, 0, 3), found.way(one, one.moved((10 ** 9, 7))),
                      found.bar(one, one.moved((1, 0))), found.least(one, (1, 0)), verdicts.frame_of(NONE, ONE, 1)]:
            assert_plain(value)
        for value in [found.leads(one, one), verdict_holds(STEP, ONE, ONE, ("script", ())), finding_holds(None)]:
            self.assertIs(type(value), bool)

    def test_results_are_passed_on(self):
        # What the package returned is let everywhere, whatever its size, also put together with others.
        found = Rounds(BARS, 3, 3, round_of(BARS, 3, 3, 0, 1))
        far = ONE.moved((3 * 10 ** 8, -3 * 10 ** 8))
        way = found.way(ONE, far)
        self.assertIs(is_script(BARS, way), True)
        self.assertIs(is_laid(BARS, way), False)
        self.assertEqual(found.board.done(ONE, way + way), found.board.folded(ONE))
        self.assertEqual(found.board.done(ONE, undone(way)), found.board.folded(ONE))
        self.assertEqual(found.board.done(ONE * 2, ((10 ** 30, 1, 1, way),)), found.board.folded(ONE * 2))
        bar = found.bar(ONE, ONE.moved((1, 0)))
        self.assertIs(is_of(BARS, moved_colouring(bar, (10 ** 9, -7))), True)
        self.assertEqual(weight_far(bar, far, ((10 ** 40, 3, 3),)), weight(bar, far) * 10 ** 40 % bar[0])
        book = BARS | LEAP.renamed(up="leapup") | STEP
        self.assertIs(script_holds(book, ONE, ONE.moved((4, 0)), verdict(book, ONE, ONE.moved((4, 0)), 0, 1)[1]), True)
        self.assertEqual(covers(book, STEP, 0, 1)[0], "covers")
        self.assertIs(covers_holds(book, STEP, covers(book, STEP, 0, 1)), True)
        script = verdict(NINES, ONE.moved((9, 0)), ONE * 9 ** 9, 0, 1)[1]
        self.assertEqual(change(NINES, undone(script)), ONE.moved((9, 0)) - ONE * 9 ** 9)

    def test_kinds_come_first(self):
        # Ahead of whatever else is wrong with the arguments.
        other = Stand("b")
        found = Rounds(BARS, 3, 3, round_of(BARS, 3, 3, 0, 1))
        for asked in [lambda: verdict(BARS, other, other, 0, 1), lambda: verdicts.is_led(BARS, ONE, other, 0, 1), lambda: verdicts.frame_of(ONE, other, 0),
                      lambda: verdict_holds(BARS, other, ONE, None), lambda: covers(BARS, SWAP, 0, 1), lambda: covers_holds(SWAP, BARS, None),
                      lambda: found.leads(other, other), lambda: found.way(other, other), lambda: found.bar(other, ONE), lambda: found.least(other, (0, 0)),
                      lambda: found.board.tells(other, other), lambda: BARS | SWAP, lambda: ONE + other, lambda: ONE - other]:
            self.assertRaises(OtherKinds, asked)


class TestGuarantee(unittest.TestCase):
    def test_some_numbers_are_enough(self):
        # Frames and boards that grow side by side decide at last; for these small books and stands, soon.
        source = random.Random(1)
        decided = {"script": 0, "colouring": 0}
        for book in (BARS, LEAP, STEP, NINES, STEP | BARS):
            for _ in range(25):
                one = Stand("a", some_entries(source, "a", 2, 1, 2, 3))
                other = Stand("a", some_entries(source, "a", 2, 1, 2, 3))
                for most, sides in [(0, 1), (1, 2), (2, 3), (2, 4)]:
                    try:
                        paper = verdict(book, one, other, most, sides)
                    except TooFar:
                        continue
                    self.assertIs(verdict_holds(book, one, other, paper), True)
                    decided[paper[0]] += 1
                    # What is decided once stays so in greater frames, with greater sides.
                    self.assertEqual(verdict(book, one, other, most, 4)[0], paper[0])
                    self.assertEqual(verdict(book, one, other, 2, sides)[0], paper[0])
                    break
        self.assertGreater(min(decided.values()), 10)
        self.assertGreater(sum(decided.values()), 100)

    def test_never_both(self):
        source = random.Random(2)
        for _ in range(60):
            book = some_book(source, "ab", 3, 3)
            deeds = tuple((source.choice(book.names), source.randrange(-9, 9), source.randrange(-9, 9), source.randrange(-9, 9)) for _ in range(4))
            one = Stand("ab", some_entries(source, "ab", 9, 9))
            other = one + change(book, deeds)
            self.assertIs(script_holds(book, one, other, laid(book, deeds)), True)
            for a, b in [(1, 1), (2, 3), (4, 3), (1, 5)]:
                board = Board(book, a, b)
                self.assertIs(board.alike(one, other), True)
                self.assertIsNone(board.tells(one, other))
                # If all moves weigh 0, every change weighs 0.
                third = Stand("ab", some_entries(source, "ab", 9, 9))
                colouring = board.tells(one, third)
                if colouring is not None:
                    self.assertEqual(weight(colouring, one), weight(colouring, other))
                    self.assertIs(colouring_holds(book, one, other, colouring), False)
                    self.assertIs(colouring_holds(book, other, third, colouring), True)

    def test_boards_tell_all_classes(self):
        # As many colourings modulo m as sums that go with sums from the classes to the integers modulo m.
        for book, a, b in [(LEAP, 3, 3), (BARS, 3, 3), (TURNS, 2, 2), (SWAP, 4, 1)]:
            board = Board(book, a, b)
            for kind in book.kinds:
                for x in range(a):
                    for y in range(b):
                        order = board.order(Stand(book.kinds, ((x, y, kind, 1),)))
                        self.assertTrue(order is None or order >= 1)
                        self.assertEqual(order is None and board.free == 0, False)
                        if order is not None and board.divisors:
                            self.assertEqual(board.divisors[-1] % order, 0)


if __name__ == "__main__":
    unittest.main()
