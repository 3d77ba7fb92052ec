"""Scripts: deeds of a book and loops over them, done one after the other."""

from sheetmoves.basics import is_int
from sheetmoves.errors import BadScript
from sheetmoves.stands import known_stand


def is_deed(book, thing):
    """Whether any value is a deed (name, x, y, times) of the book."""
    return (isinstance(thing, tuple) and len(thing) == 4
            and isinstance(thing[0], str) and thing[0] in book.names
            and all([is_int(number) for number in thing[1:]]))


def is_loop(book, thing):
    """Whether any value is a loop (many, dx, dy, script) over a script of the book."""
    return (isinstance(thing, tuple) and len(thing) == 4
            and all([is_int(number) for number in thing[:3]]) and thing[0] >= 0
            and is_script(book, thing[3]))


def is_script(book, thing):
    """Whether any value is a script of the book."""
    return (isinstance(thing, tuple)
            and all([is_deed(book, item) or is_loop(book, item) for item in thing]))


def is_laid(book, thing):
    """Whether any value is a laid script of the book."""
    return (isinstance(thing, tuple)
            and all([is_deed(book, item) and item[3] != 0 for item in thing])
            and all([one[:3] < other[:3] for one, other in zip(thing, thing[1:])]))


def is_told_as_deed(item):
    """Whether an item of a script is a deed; otherwise it is a loop."""
    return isinstance(item[0], str)


def check_script(book, deeds):
    """Raises BadScript if any value is no script of the book."""
    if not isinstance(deeds, tuple):
        raise BadScript("script")
    for item in deeds:
        if not is_deed(book, item) and not is_loop(book, item):
            raise BadScript(item)


def deeds_of(item):
    """The deeds that an item of a script makes; within a loop they are laid."""
    if is_told_as_deed(item):
        return [item]
    many, dx, dy, script = item
    once = laid_deeds(script) if many > 0 else ()
    # A loop without deeds may be done so often that nobody can count up to it.
    if not once:
        return []
    return [(name, x + k * dx, y + k * dy, times)
            for k in range(many) for name, x, y, times in once]


def made(deeds):
    """How often what is known to be a script makes each move at each place: a dict from (name, x, y)."""
    found = {}
    for item in deeds:
        for name, x, y, times in deeds_of(item):
            found[name, x, y] = found.get((name, x, y), 0) + times
    return found


def laid_deeds(deeds):
    """The laid script of what is known to be a script."""
    return tuple(sorted([(name, x, y, times) for (name, x, y), times in made(deeds).items() if times != 0]))


def laid(book, deeds):
    """The laid script that makes all moves at the same places as often in all."""
    check_script(book, deeds)
    return laid_deeds(deeds)


def change(book, deeds):
    """The stand that a script adds to any stand."""
    check_script(book, deeds)
    moves = {name: entries for name, entries in book.moves}
    numbers = {}
    for (name, x, y), times in made(deeds).items():
        for right, up, kind, number in moves[name]:
            at = (x + right, y + up, kind)
            numbers[at] = numbers.get(at, 0) + times * number
    return known_stand(book.kinds, numbers)


def undone_item(item):
    """The deed or the loop that undoes a deed or a loop."""
    first, x, y, last = item
    return (first, x, y, -last) if is_told_as_deed(item) else (first, x, y, undone(last))


def undone(deeds):
    """The script that makes each move of a script as often backwards, at the same places."""
    return tuple([undone_item(item) for item in deeds])


def is_inside(box, x, y, frame):
    """Whether a box, moved by (x, y), is within a rectangle."""
    left, low, right, high = frame
    return (left <= box[0] + x and low <= box[1] + y
            and box[2] + x <= right and box[3] + y <= high)


def within(book, deeds, frame):
    """Whether a laid script is within a rectangle (left, low, right, high)."""
    boxes = {name: book[name].box for name in book.names}
    return all([is_inside(boxes[name], x, y, frame) for name, x, y, _ in deeds])
