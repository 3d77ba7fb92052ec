"""Findings: what is said of books and stands by their texts, with a paper that proves it."""

from sheetmoves.basics import is_int
from sheetmoves.boards import Board
from sheetmoves.books import Book
from sheetmoves.colourings import is_of, weight_far
from sheetmoves.errors import BadText, OtherKinds
from sheetmoves.rounds import round_holds
from sheetmoves.stands import Stand, check_kinds
from sheetmoves.verdicts import colouring_holds, covers_holds, script_holds

# Nothing is promised of boards far beyond the limits, and as any value is let, this keeps them out of memory.
MOST_NUMBERS = 1000


def is_side(thing):
    """Whether any value is a side, an integer from 1 on."""
    return is_int(thing) and thing >= 1


def is_step(thing):
    """Whether any value is a step (many, dx, dy) by which stands are repeated."""
    return (isinstance(thing, tuple) and len(thing) == 3
            and all([is_int(number) for number in thing]) and thing[0] >= 0)


def is_steps(thing):
    """Whether any value is none to three steps."""
    return isinstance(thing, tuple) and len(thing) <= 3 and all([is_step(step) for step in thing])


def leads_holds(book, one, other, script):
    """Whether a laid script leads from one stand to the other one."""
    return script_holds(Book.read(book), Stand.read(one), Stand.read(other), script)


def barred_holds(book, one, other, colouring):
    """Whether a colouring bars two stands."""
    return colouring_holds(Book.read(book), Stand.read(one), Stand.read(other), colouring)


def covering_holds(book, other, paper):
    """Whether a paper says that a book covers another one, or does not."""
    return covers_holds(Book.read(book), Book.read(other), paper)


def rounding_holds(book, a, b, paper):
    """Whether a paper says that a book comes round with two sides, or does not."""
    return is_side(a) and is_side(b) and round_holds(Book.read(book), a, b, paper)


def order_holds(book, a, b, stand, number):
    """Whether a stand has this order on a board."""
    if not is_side(a) or not is_side(b) or not (number is None or is_int(number)):
        return False
    book = Book.read(book)
    stand = Stand.read(stand)
    return len(book.kinds) * a * b <= MOST_NUMBERS and Board(book, a, b).order(stand) == number


def great_holds(book, stand, steps, colouring):
    """Whether a repeated stand weighs something other than 0 in a colouring of a book."""
    book = Book.read(book)
    stand = Stand.read(stand)
    check_kinds(book.kinds, (stand,))
    return is_steps(steps) and is_of(book, colouring) and weight_far(colouring, stand, steps) != 0


PARTS = {"leads": 4, "barred": 4, "covers": 3, "round": 4, "order": 5, "great": 4}
CHECKS = {
    "leads": leads_holds, "barred": barred_holds, "covers": covering_holds,
    "round": rounding_holds, "order": order_holds, "great": great_holds,
}


def finding_holds(thing):
    """Whether any value is a finding that holds."""
    if not isinstance(thing, tuple) or not thing or not isinstance(thing[0], str) or thing[0] not in PARTS:
        return False
    parts = thing[1:]
    if len(parts) != PARTS[thing[0]]:
        return False
    check = CHECKS[thing[0]]
    try:
        return check(*parts)
    except (BadText, OtherKinds):
        return False
