"""Rounds: books in which all cells that a board takes as one lead to one another on the sheet, too."""

from math import gcd

from sheetmoves.boards import Board
from sheetmoves.errors import BadRound
from sheetmoves.rings import flat_numbers, move_rows, places_along, ring_places, stand_of_flat, sums_along
from sheetmoves.scripts import change
from sheetmoves.stairs import Stairs
from sheetmoves.stands import Stand, check_kinds
from sheetmoves.verdicts import colouring_holds, scripts_hold, verdict

SIDES = ("x", "y")


def step_stand(book, a, b, kind, side):
    """The stand that takes 1 of a kind from (0, 0) to (a, 0), or to (0, b)."""
    x, y = (a, 0) if side == "x" else (0, b)
    return Stand(book.kinds, ((0, 0, kind, -1), (x, y, kind, 1)))


def round_of(book, a, b, most, sides):
    """A paper: two scripts for each kind, or a colouring that bars one of the steps."""
    pairs = []
    for kind in book.kinds:
        scripts = []
        for side in SIDES:
            word, part = verdict(book, Stand(book.kinds), step_stand(book, a, b, kind, side), most, sides)
            if word == "colouring":
                return "loose", kind, side, part
            scripts.append(part)
        pairs.append(tuple(scripts))
    return "round", tuple(pairs)


def is_round(book, a, b, thing):
    """Whether any value is a paper that says that a book comes round with these sides."""
    if not isinstance(thing, tuple) or len(thing) != 2 or thing[0] != "round":
        return False
    pairs = thing[1]
    return (isinstance(pairs, tuple) and len(pairs) == len(book.kinds)
            and all([scripts_hold(book, [step_stand(book, a, b, kind, side) for side in SIDES], pair)
                     for kind, pair in zip(book.kinds, pairs)]))


def is_loose(book, a, b, thing):
    """Whether any value is a paper that says that a book does not come round with these sides."""
    if not isinstance(thing, tuple) or len(thing) != 4 or thing[0] != "loose":
        return False
    _, kind, side, colouring = thing
    return (kind in list(book.kinds) and side in SIDES
            and colouring_holds(book, Stand(book.kinds), step_stand(book, a, b, kind, side), colouring))


def round_holds(book, a, b, thing):
    """Whether any value is a paper for a book and two sides."""
    return is_round(book, a, b, thing) or is_loose(book, a, b, thing)


def moved_deeds(deeds, by, many):
    """The deeds of a laid script moved by a pair, each done so many times as often."""
    dx, dy = by
    return tuple([(name, x + dx, y + dy, many * times) for name, x, y, times in deeds])


class Rounds:
    """A book that comes round, and all that its board tells of stands on the whole sheet."""

    def __init__(self, book, a, b, paper):
        if not is_round(book, a, b, paper):
            raise BadRound(paper)
        self.book = book
        self.a = a
        self.b = b
        self.paper = paper
        self._board = Board(book, a, b)
        self._places = ring_places(book, a, b)
        self._moves = move_rows(book, a, b, self._places)
        self._stairs = Stairs(self._moves)

    @property
    def board(self):
        """The board on which stands are alike if, and only if, one leads to the other."""
        return self._board

    def _flat(self, stand):
        """The flat list of a stand, folded."""
        return flat_numbers(self.book.kinds, self.a, self.b, stand.entries, (0, 0, 1))

    def leads(self, one, other):
        """Whether one stand leads to another one."""
        return self._board.alike(one, other)

    def bar(self, one, other):
        """A colouring that bars two stands, or None."""
        return self._board.tells(one, other)

    def _deed_near(self, place, times, corner):
        """The deed that a place (name, x, y) of the board tells, with its entries from the corner on."""
        name, x, y = place
        left, low = self.book[name].box[:2]
        return (name, corner[0] - left + (x + left - corner[0]) % self.a,
                corner[1] - low + (y + low - corner[1]) % self.b, times)

    def _loops(self, entry, corner):
        """The loops that bring what an entry tells to its cell, from where the board has it next to the corner."""
        x, y, kind, number = entry
        # No entry of a way lies to the left of the corner, or below it.
        right = (x - corner[0]) // self.a
        up = (y - corner[1]) // self.b
        across, upward = self.paper[1][self.book.kinds.index(kind)]
        begin = (x - right * self.a, y - up * self.b)
        loops = []
        if right > 0:
            loops.append((right, self.a, 0, moved_deeds(across, begin, number)))
        if up > 0:
            loops.append((up, 0, self.b, moved_deeds(upward, (x, begin[1]), number)))
        return loops

    def way(self, one, other):
        """A script that leads from one stand to another one, or None."""
        check_kinds(self.book.kinds, (one, other))
        difference = other - one
        if not difference.entries:
            return ()
        found = self._stairs.times(self._flat(difference))
        if found is None:
            return None
        corner = difference.box[:2]
        deeds = tuple([self._deed_near(place, times, corner)
                       for place, times in zip(self._places, found) if times != 0])
        # What is left is nothing on the board, so where the loops begin it comes to nothing, too.
        rest = difference - change(self.book, deeds)
        return deeds + tuple([loop for entry in rest.entries for loop in self._loops(entry, corner)])

    def _repeated(self, numbers, step):
        """The flat list of a stand that is repeated by a step, by its own flat list."""
        many, dx, dy = step
        # A cell gets what is at the cells from which the step comes to it.
        return sums_along(numbers, self.a, self.b, (many, -dx, -dy))

    def least(self, stand, by, steps=()):
        """How often, at least, a stand repeated by steps is repeated by a pair to lead to the empty one, or None."""
        check_kinds(self.book.kinds, (stand,))
        numbers = self._flat(stand)
        for step in steps:
            numbers = self._repeated(numbers, step)
        dx, dy = by
        turn = len(places_along(0, self.a, self.b, by))
        whole = self._repeated(numbers, (turn, dx, dy))
        order = self._board.order(stand_of_flat(self.book.kinds, self.a, self.b, whole))
        if order is None:
            return None
        # What is right are the multiples of the least one. One in each remainder, and the least
        # multiple of the turn, have no other common divisor.
        found = turn * order
        stairs = Stairs([whole] + self._moves)
        for k in range(1, turn):
            times = stairs.times([-number for number in self._repeated(numbers, (k, dx, dy))])
            if times is not None:
                found = gcd(found, times[0] * turn + k)
        return found
