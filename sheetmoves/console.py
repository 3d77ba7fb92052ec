"""The console: commands, which are strings of words, about one book and one stand."""

from sheetmoves.basics import integer_of
from sheetmoves.boards import Board
from sheetmoves.books import Book
from sheetmoves.errors import BadText, InvalidCommand, NoBook
from sheetmoves.stands import Stand
from sheetmoves.verdicts import verdict

COMMANDS = ("book", "stand", "make", "show", "leads", "board")


def check_many(words, many):
    """Raises InvalidCommand if these are not so many words."""
    if len(words) != many:
        raise InvalidCommand()


def integers_of(words):
    """The integers that words tell."""
    numbers = [integer_of(word) for word in words]
    if None in numbers:
        raise InvalidCommand()
    return numbers


def integers_from(least, words):
    """The integers that words tell; least are the least ones that are let, one for each word."""
    numbers = integers_of(words)
    if not all([low <= number for low, number in zip(least, numbers)]):
        raise InvalidCommand()
    return numbers


def text_of(words):
    """The text that words tell, with its line feeds."""
    return " ".join(words).replace(";", "\n")


class Console:
    """A book, at first none, and a stand of its kinds."""

    def __init__(self):
        self._book = None
        self._stand = None

    def run(self, command):
        """The answer to a command."""
        words = command.split(" ")
        if words[0] not in COMMANDS:
            raise InvalidCommand()
        if words[0] != "book" and self._book is None:
            raise NoBook()
        if "\n" in command:
            raise InvalidCommand()
        if words[0] == "book":
            return self._take_book(words[1:])
        if words[0] == "stand":
            return self._take_stand(words[1:])
        if words[0] == "make":
            return self._make(words[1:])
        if words[0] == "show":
            return self._show(words[1:])
        if words[0] == "leads":
            return self._leads(words[1:])
        return self._classes(words[1:])

    def _read_stand(self, words):
        """The stand of the kinds of the book that words tell."""
        try:
            stand = Stand.read(text_of(words))
        except BadText:
            raise InvalidCommand() from None
        if stand.kinds != self._book.kinds:
            raise InvalidCommand()
        return stand

    def _take_book(self, words):
        """Keeps a book, and the empty stand."""
        try:
            book = Book.read(text_of(words))
        except BadText:
            raise InvalidCommand() from None
        self._book = book
        self._stand = Stand(book.kinds)
        return "ok"

    def _take_stand(self, words):
        """Keeps a stand."""
        self._stand = self._read_stand(words)
        return "ok"

    def _make(self, words):
        """Makes a move, and tells the number of entries."""
        check_many(words, 4)
        if words[0] not in self._book.names:
            raise InvalidCommand()
        x, y, times = integers_of(words[1:])
        self._stand = self._stand + self._book[words[0]].moved((x, y)) * times
        return str(len(self._stand))

    def _show(self, words):
        """The text of the stand, on one line."""
        check_many(words, 0)
        return str(self._stand).replace("\n", ";")

    def _leads(self, words):
        """Whether the stand leads to another one, with the measures of the paper."""
        check_many(words[:2], 2)
        most, sides = integers_from((0, 1), words[:2])
        other = self._read_stand(words[2:])
        word, part = verdict(self._book, self._stand, other, most, sides)
        if word == "script":
            return f"yes {len(part)}"
        m, a, b, _ = part
        return f"no {m} {a} {b}"

    def _classes(self, words):
        """What tells the classes of a board."""
        check_many(words, 2)
        a, b = integers_from((1, 1), words)
        board = Board(self._book, a, b)
        return " ".join([str(divisor) for divisor in board.divisors] + ["free", str(board.free)])
