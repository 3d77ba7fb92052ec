"""The errors of this package: one base class and its eleven direct subclasses."""


class SheetError(Exception):
    """The base class of every error of this package."""


class BadStand(SheetError):
    """No stand can be made of these values; the part says why."""

    def __init__(self, part):
        self.part = part


class BadBook(SheetError):
    """No book can be made of these values; the part says why."""

    def __init__(self, part):
        self.part = part


class BadText(SheetError):
    """A value is no text of a stand or a book: line 0 if it is no string, else the first wrong line."""

    def __init__(self, line):
        self.line = line


class BadScript(SheetError):
    """A value is no script of a book; the part says why."""

    def __init__(self, part):
        self.part = part


class OtherKinds(SheetError):
    """Stands or books have other kinds than is needed."""


class UnknownName(SheetError):
    """A value is no name of a move of the book."""

    def __init__(self, name):
        self.name = name


class Clash(SheetError):
    """One name would be that of two unlike moves."""

    def __init__(self, name):
        self.name = name


class TooFar(SheetError):
    """Nothing within the frame and the sides that were told decides."""

    def __init__(self, most, sides):
        self.most = most
        self.sides = sides


class BadRound(SheetError):
    """A value is no paper that says that a book comes round."""

    def __init__(self, paper):
        self.paper = paper


class NoBook(SheetError):
    """A command needs a book, and the console keeps none."""


class InvalidCommand(SheetError):
    """A command has none of the forms that the console knows."""
