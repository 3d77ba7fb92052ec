"""Verdicts: whether a stand leads to another one, with a paper that proves it."""

from sheetmoves.boards import Board
from sheetmoves.colourings import is_of, weight
from sheetmoves.errors import TooFar
from sheetmoves.rings import flat_numbers, move_rows
from sheetmoves.scripts import change, is_laid
from sheetmoves.stairs import Stairs
from sheetmoves.stands import Stand, check_kinds


def frame_of(one, other, most):
    """The box of the difference of two stands, so much wider on each side, or None if they are equal."""
    check_kinds(one.kinds, (other,))
    box = (other - one).box
    if box is None:
        return None
    left, low, right, high = box
    return left - most, low - most, right + most, high + most


def places_within(book, frame):
    """The places (name, x, y) at which moves of the book are within a rectangle, ascending."""
    left, low, right, high = frame
    boxes = [(name, book[name].box) for name in book.names]
    return [(name, x, y) for name, box in boxes
            for x in range(left - box[0], right - box[2] + 1)
            for y in range(low - box[1], high - box[3] + 1)]


def script_within(book, difference, frame):
    """A laid script within a rectangle, around this stand, with this change, or None."""
    # On a ring as large as the rectangle no two of its cells are taken as one.
    a = frame[2] - frame[0] + 1
    b = frame[3] - frame[1] + 1
    places = places_within(book, frame)
    numbers = flat_numbers(book.kinds, a, b, difference.entries, (0, 0, 1))
    found = Stairs(move_rows(book, a, b, places)).times(numbers)
    if found is None:
        return None
    return tuple([(name, x, y, times) for (name, x, y), times in zip(places, found) if times != 0])


def colouring_within(book, one, other, sides):
    """A colouring with sides up to so many that bars two stands, or None."""
    for a in range(1, sides + 1):
        for b in range(1, sides + 1):
            colouring = Board(book, a, b).tells(one, other)
            if colouring is not None:
                return colouring
    return None


def verdict(book, one, other, most, sides):
    """A paper: a script within the frame for most, or a colouring with sides up to so many."""
    check_kinds(book.kinds, (one, other))
    if one == other:
        return "script", ()
    script = script_within(book, other - one, frame_of(one, other, most))
    if script is not None:
        return "script", script
    colouring = colouring_within(book, one, other, sides)
    if colouring is None:
        raise TooFar(most, sides)
    return "colouring", colouring


def is_led(book, one, other, most, sides):
    """Whether one stand leads to another one, as verdict tells."""
    return verdict(book, one, other, most, sides)[0] == "script"


def script_holds(book, one, other, thing):
    """Whether any value is a laid script whose change is the difference."""
    check_kinds(book.kinds, (one, other))
    return is_laid(book, thing) and change(book, thing) == other - one


def colouring_holds(book, one, other, thing):
    """Whether any value is a colouring that bars two stands."""
    check_kinds(book.kinds, (one, other))
    return is_of(book, thing) and weight(thing, one) != weight(thing, other)


def is_pair(thing):
    """Whether any value is a tuple of two."""
    return isinstance(thing, tuple) and len(thing) == 2


def verdict_holds(book, one, other, thing):
    """Whether any value is a paper for a book and two stands."""
    check_kinds(book.kinds, (one, other))
    if not is_pair(thing):
        return False
    word, part = thing
    return (word == "script" and script_holds(book, one, other, part)
            or word == "colouring" and colouring_holds(book, one, other, part))


def covers(book, other, most, sides):
    """A paper: a script for each move of the other book, or a colouring for one of them that the book lacks."""
    check_kinds(book.kinds, (other,))
    scripts = []
    for name in other.names:
        word, part = verdict(book, Stand(book.kinds), other[name], most, sides)
        if word == "colouring":
            return "lacks", name, part
        scripts.append(part)
    return "covers", tuple(scripts)


def scripts_hold(book, stands, thing):
    """Whether any value is a tuple of a laid script for each of these stands, whose change it is."""
    return (isinstance(thing, tuple) and len(thing) == len(stands)
            and all([script_holds(book, Stand(book.kinds), stand, script)
                     for stand, script in zip(stands, thing)]))


def covers_holds(book, other, thing):
    """Whether any value is a paper for a book that covers another one, or does not."""
    check_kinds(book.kinds, (other,))
    if not isinstance(thing, tuple) or not thing:
        return False
    if thing[0] == "covers" and len(thing) == 2:
        return scripts_hold(book, [other[name] for name in other.names], thing[1])
    if thing[0] == "lacks" and len(thing) == 3:
        _, name, colouring = thing
        return name in other.names and colouring_holds(book, Stand(book.kinds), other[name], colouring)
    return False
