"""Promise [20]: the console."""

import random
import unittest

from sheetmoves import console
from sheetmoves.boards import Board
from sheetmoves.books import Book
from sheetmoves.console import Console
from sheetmoves.errors import InvalidCommand, NoBook, SheetError, TooFar
from sheetmoves.stands import Stand
from sheetmoves.verdicts import verdict

from sheets import BARS, LEAP, ONE, STEP, SWAP, some_book, some_entries


def told(thing):
    """The text of a book or a stand, as commands have it."""
    return str(thing).replace("\n", ";")


def console_with(book, stand=None):
    found = Console()
    found.run("book " + told(book))
    if stand is not None:
        found.run("stand " + told(stand))
    return found


NOT_INTEGERS = ["", "x", "1.0", "+1", "01", "-0", "--1", "1e3", "0x1", "1_000", "True", "None", "9" * 61, "-" + "9" * 61, "1;", "-", "1\t", "1\n"]


class TestAnswers(unittest.TestCase):
    def test_a_day(self):
        found = Console()
        for command, answer in [
            ("book kinds a;move lie;0 0 a 1;1 0 a 1;2 0 a 1;move stand;0 0 a 1;0 1 a 1;0 2 a 1", "ok"),
            ("show", "kinds a"), ("make lie 0 0 1", "3"), ("make stand 1 0 -1", "4"), ("show", "kinds a;0 0 a 1;1 1 a -1;1 2 a -1;2 0 a 1"),
            ("make lie 5 5 0", "4"), ("leads 0 1 kinds a", "yes 2"), ("stand kinds a;0 0 a 1", "ok"), ("show", "kinds a;0 0 a 1"),
            ("leads 3 1 kinds a;0 0 a 1", "yes 0"), ("leads 0 1 kinds a;3 0 a 1", "yes 2"), ("board 3 3", "free 4"), ("board 1 1", "3 free 0"),
            ("make lie 0 0 -1", "2"), ("show", "kinds a;1 0 a -1;2 0 a -1"),
        ]:
            self.assertEqual(found.run(command), answer)

    def test_book(self):
        found = console_with(BARS, ONE)
        self.assertEqual(found.run("book " + told(BARS)), "ok")
        self.assertEqual(found.run("show"), "kinds a")
        self.assertEqual(found.run("book " + told(SWAP)), "ok")
        self.assertEqual(found.run("show"), "kinds ab")

    def test_stand(self):
        found = console_with(SWAP)
        for stand in [Stand("ab"), Stand("ab", ((-3, 10 ** 9, "a", -5), (7, 0, "b", 10 ** 40))), Stand("ab", ((0, 0, "a", 10 ** 60 - 1),))]:
            self.assertEqual(found.run("stand " + told(stand)), "ok")
            self.assertEqual(found.run("show"), told(stand))

    def test_make(self):
        source = random.Random(1)
        for book in (BARS, LEAP, SWAP):
            found = console_with(book)
            stand = Stand(book.kinds)
            for _ in range(60):
                name, x, y = source.choice(book.names), source.randrange(-4, 5), source.randrange(-4, 5)
                times = source.choice((0, 1, -1, 2, -2, 10 ** 9, -10 ** 9))
                stand = stand + book[name].moved((x, y)) * times
                self.assertEqual(found.run(f"make {name} {x} {y} {times}"), str(len(stand)))
                self.assertEqual(found.run("show"), told(stand))

    def test_make_so_that_nothing_is_left(self):
        found = console_with(BARS)
        self.assertEqual(found.run("make lie 1000000000 -1000000000 -1000000000"), "3")
        self.assertEqual(found.run("make lie 1000000000 -1000000000 1000000000"), "0")
        self.assertEqual(found.run("show"), "kinds a")
        self.assertEqual(found.run("make stand 0 0 0"), "0")

    def test_leads(self):
        source = random.Random(2)
        seen = {"yes": 0, "no": 0, "far": 0}
        for _ in range(150):
            kinds = source.choice(("a", "ab"))
            book = some_book(source, kinds, 2, 2)
            one, other = [Stand(kinds, some_entries(source, kinds, 2, 2, 3)) for _ in range(2)]
            if source.random() < 0.3:
                other = one + book[book.names[0]].moved((0, 0)) * source.randrange(-1, 2)
                if other != one and len(other) > 0 and (other - one).box[0] > 3:
                    continue
            most, sides = source.randrange(2), source.randrange(1, 4)
            found = console_with(book, one)
            command = f"leads {most} {sides} {told(other)}"
            try:
                word, part = verdict(book, one, other, most, sides)
            except TooFar:
                with self.assertRaises(TooFar) as caught:
                    found.run(command)
                self.assertEqual((caught.exception.most, caught.exception.sides), (most, sides))
                seen["far"] += 1
                continue
            expected = f"yes {len(part)}" if word == "script" else f"no {part[0]} {part[1]} {part[2]}"
            self.assertEqual(found.run(command), expected)
            seen[expected.split(" ")[0]] += 1
            self.assertEqual(found.run("show"), told(one))
        self.assertGreater(min(seen.values()), 8)

    def test_leads_worked_out(self):
        found = console_with(STEP, ONE)
        self.assertEqual(found.run("leads 0 1 kinds a;4 0 a 1"), "yes 2")
        self.assertEqual(found.run("leads 0 2 kinds a;3 0 a 1").split(" ")[0], "no")
        self.assertEqual(found.run("leads 0 1 kinds a").split(" ")[0], "no")
        self.assertEqual(len(found.run("leads 0 1 kinds a").split(" ")), 4)
        with self.assertRaises(TooFar) as caught:
            found.run("leads 1 1 kinds a;3 0 a 1")
        self.assertEqual((caught.exception.most, caught.exception.sides), (1, 1))

    def test_board(self):
        source = random.Random(3)
        for _ in range(60):
            kinds = source.choice(("a", "ab", "xyz"))
            book = some_book(source, kinds)
            a, b = source.choice([(1, 1), (2, 1), (1, 3), (2, 2), (4, 2)])
            board = Board(book, a, b)
            expected = "".join(f"{divisor} " for divisor in board.divisors) + f"free {board.free}"
            self.assertEqual(console_with(book).run(f"board {a} {b}"), expected)
        self.assertEqual(console_with(LEAP).run("board 3 3"), "2 2 2 2 free 0")
        self.assertEqual(console_with(LEAP).run("board 1 1"), "free 0")
        self.assertEqual(console_with(STEP).run("board 2 1"), "free 2")

    def test_consoles_by_themselves(self):
        one, other = console_with(BARS, ONE), Console()
        self.assertRaises(NoBook, other.run, "show")
        other.run("book " + told(STEP))
        self.assertEqual(one.run("show"), told(ONE))
        self.assertEqual(other.run("show"), "kinds a")

    def test_by_name(self):
        self.assertEqual(Console().run(command="book " + told(BARS)), "ok")
        self.assertIn("run", vars(Console))
        self.assertEqual(console.Console.__module__, "sheetmoves.console")


class TestErrors(unittest.TestCase):
    def assert_refused(self, found, command, error=InvalidCommand):
        """The command is refused with just this error, and nothing changes."""
        with self.assertRaises(SheetError) as caught:
            found.run(command)
        self.assertIs(type(caught.exception), error, command)

    def test_no_commands(self):
        for command in ["", " ", "\n", "books", "Show", "SHOW", "shows", "quit", "help", "kinds a", " show", "  ", ";", "show;", "show\n", "\nshow",
                        "board\n1 1", "make\tlie", "book\nkinds a", "boo k", "~", "x" * 20000, "0", "None", "run show", "is show"]:
            for found in (Console(), console_with(BARS, ONE)):
                self.assert_refused(found, command)

    def test_no_book(self):
        # Without a book this comes ahead of whatever else is wrong with the command.
        for command in ["show", "stand", "stand kinds a", "make", "make lie 0 0 1", "make lie 0 0 x", "leads", "leads 0 1 kinds a", "leads -1 0 x",
                        "board", "board 1 1", "board 0 0", "show ", "show x", "show \n", "stand \n", "board 1 1\n", "make  lie", "stand nothing"]:
            self.assert_refused(Console(), command, NoBook)

    def test_a_book_that_is_none(self):
        for text in ["", " ", "kinds a", "kinds a;", "kinds a;move lie", "kinds a;move lie;", "kinds a;move lie;0 0 a 0", "kinds a;move lie;0 0 b 1",
                     "kinds ba;move lie;0 0 a 1", "kinds a;move kinds;0 0 a 1", "kinds a;move lie;1 0 a 1;0 0 a 1", "kinds a;move lie;0 0 a 1;",
                     " kinds a;move lie;0 0 a 1", "kinds a;move lie;0 0 a 1 ", "kinds  a;move lie;0 0 a 1", "kinds a\nmove lie\n0 0 a 1",
                     "kinds a;move lie;0 0 a 1\n", "kinds a;move lie;0 0 a " + "9" * 61, "kinds a;move b;0 0 a 1;move a;0 0 a 1", "kinds a;;move lie;0 0 a 1"]:
            self.assert_refused(Console(), "book " + text)
            found = console_with(BARS, ONE)
            self.assert_refused(found, "book " + text)
            self.assertEqual(found.run("show"), told(ONE))
            self.assertEqual(found.run("make lie 0 0 1"), "3")
        self.assert_refused(Console(), "book")
        found = Console()
        self.assert_refused(found, "book kinds a")
        self.assert_refused(found, "show", NoBook)
        self.assertEqual(found.run("book kinds a;move lie;0 0 a " + "9" * 60), "ok")

    def test_a_stand_that_is_none(self):
        found = console_with(BARS, ONE)
        for text in ["", " ", "kinds", "kinds b", "kinds ab", "kinds a;", "kinds a;0 0 a 0", "kinds a;0 0 b 1", "kinds a;0 0 a 1;0 0 a 1", "kinds a;1 0 a 1;0 0 a 1",
                     "kinds a;0 0 a 1\n", "kinds a\n0 0 a 1", "kinds a;0 0  a 1", "kinds a;0 0 a 01", told(BARS), "kinds a;0 0 a 1 ", " kinds a", "Kinds a",
                     "kinds a;0 0 a " + "1" * 61, "kinds A", "kinds abc;0 0 a 1"]:
            self.assert_refused(found, "stand " + text)
            self.assert_refused(found, "leads 0 1 " + text)
            self.assertEqual(found.run("show"), told(ONE))
        self.assert_refused(found, "stand")
        self.assert_refused(found, "leads 0 1")

    def test_make(self):
        found = console_with(BARS, ONE)
        for command in ["make", "make ", "make lie", "make lie 0", "make lie 0 0", "make lie 0 0 1 1", "make lie 0 0 1 ", "make  lie 0 0 1", "make lie  0 0 1",
                        "make fly 0 0 1", "make Lie 0 0 1", "make li 0 0 1", "make  0 0 1", "make 0 0 1 lie", "make lie 0 0 1\n", "make lie\n0 0 1", "make lie 0;0 1",
                        "make kinds 0 0 1", "make lie,0,0,1"]:
            self.assert_refused(found, command)
        for word in NOT_INTEGERS:
            for command in (f"make lie {word} 0 1", f"make lie 0 {word} 1", f"make lie 0 0 {word}"):
                self.assert_refused(found, command)
        self.assertEqual(found.run("show"), told(ONE))
        self.assertEqual(found.run("make lie 0 0 " + "9" * 60), "3")

    def test_show(self):
        found = console_with(BARS, ONE)
        for command in ["show ", "show show", "show 1", "show  ", "show \n", "show kinds a"]:
            self.assert_refused(found, command)

    def test_leads(self):
        found = console_with(STEP, ONE)
        for command in ["leads", "leads ", "leads 0", "leads 0 1", "leads 0 1 ", "leads kinds a", "leads 0 kinds a", "leads 0 0 kinds a", "leads 0 -1 kinds a",
                        "leads -1 1 kinds a", "leads  0 1 kinds a", "leads 0  1 kinds a", "leads 0 1  kinds a", "leads 0 1 kinds a ", "leads 0 1 kinds a\n",
                        "leads 0 1 1 kinds a", "leads 0 1 kinds b", "leads 0 1\nkinds a", "leads kinds a 0 1"]:
            self.assert_refused(found, command)
        for word in NOT_INTEGERS:
            self.assert_refused(found, f"leads {word} 1 kinds a")
            self.assert_refused(found, f"leads 0 {word} kinds a")
        # Forms come ahead of what verdict raises.
        self.assert_refused(found, "leads 0 1 kinds a;3 0 a 1", TooFar)
        self.assert_refused(found, "leads 0 0 kinds a;3 0 a 1")
        self.assert_refused(found, "leads 0 1 kinds a;3 0 a 1;")
        self.assertEqual(found.run("show"), told(ONE))

    def test_board(self):
        found = console_with(BARS)
        for command in ["board", "board ", "board 1", "board 1 1 1", "board 1 1 ", "board  1 1", "board 1  1", "board 0 1", "board 1 0", "board -1 1", "board 1 -1",
                        "board 0 0", "board 1 1\n", "board 1\n1", "board 1;1", "board a b", "board 1 1 kinds a"]:
            self.assert_refused(found, command)
        for word in NOT_INTEGERS:
            self.assert_refused(found, f"board {word} 1")
            self.assert_refused(found, f"board 1 {word}")

    def test_what_is_refused_changes_nothing(self):
        found = console_with(STEP, ONE)
        for command in ["book kinds a", "stand kinds b", "make step 0 0 x", "make up 0 0 1", "leads 0 1 kinds a;3 0 a 1", "leads 0 1 kinds b", "board 0 1", "no", ""]:
            with self.assertRaises(SheetError):
                found.run(command)
            self.assertEqual(found.run("show"), told(ONE))
        self.assertEqual(found.run("make step 0 0 1"), "1")
        self.assertEqual(found.run("show"), "kinds a;2 0 a 1")

    def test_books_with_line_feeds_read_so(self):
        # The text itself has line feeds, the command semicolons; neither stands for the other.
        self.assertEqual(Book.read(str(BARS)), BARS)
        self.assert_refused(Console(), "book " + str(BARS))


if __name__ == "__main__":
    unittest.main()
