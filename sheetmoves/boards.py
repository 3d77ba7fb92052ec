"""Boards: rings of cells, on which all classes of stands are told."""

from math import gcd, lcm

from sheetmoves.errors import OtherKinds
from sheetmoves.rings import flat_place, rows_of, sums_along
from sheetmoves.scripts import is_told_as_deed
from sheetmoves.smith import normal_form
from sheetmoves.stands import Stand, entries_from


def least_missing(number):
    """The least integer from 2 on that does not divide a number, which is not 0."""
    m = 2
    while number % m == 0:
        m += 1
    return m


class Board:
    """The sheet of a book with cells taken as one whose x differ by multiples of a, and y by multiples of b."""

    def __init__(self, book, a, b):
        self.book = book
        self.a = a
        self.b = b
        moves = [self._flat(entries, x, y, 1) for _, entries in book.moves for x in range(a) for y in range(b)]
        # What is told by a remainder of 1 tells nothing.
        self._parts = [part for part in normal_form(moves, len(book.kinds) * a * b) if part[0] != 1]

    @property
    def divisors(self):
        """The integers from 2 on by which remainders tell classes, each dividing the next one."""
        return tuple([divisor for divisor, _ in self._parts if divisor != 0])

    @property
    def free(self):
        """How many integers tell classes, besides the remainders."""
        return len([divisor for divisor, _ in self._parts if divisor == 0])

    def _flat(self, entries, dx, dy, times):
        """The flat list of so many times these entries, moved by (dx, dy)."""
        kinds = self.book.kinds
        numbers = [0] * (len(kinds) * self.a * self.b)
        for x, y, kind, number in entries:
            numbers[flat_place(kinds, self.a, self.b, (x + dx, y + dy, kind))] += times * number
        return numbers

    def _stand(self, numbers):
        """The folded stand with these numbers, a flat list."""
        cells = [(x, y, kind) for x in range(self.a) for y in range(self.b) for kind in self.book.kinds]
        entries = entries_from({
            cell: numbers[flat_place(self.book.kinds, self.a, self.b, cell)] for cell in cells
        })
        return Stand(self.book.kinds, entries)

    def _item_change(self, item):
        """The flat list of what an item of a script changes."""
        if is_told_as_deed(item):
            name, x, y, times = item
            return self._flat(self.book[name].entries, x, y, times)
        many, dx, dy, script = item
        # A cell gets what the script does at the cells from which the loop comes to it.
        return sums_along(self._change(script), self.a, self.b, (many, -dx, -dy))

    def _change(self, deeds):
        """The flat list of what a script changes."""
        numbers = self._flat((), 0, 0, 1)
        for item in deeds:
            numbers = [one + other for one, other in zip(numbers, self._item_change(item))]
        return numbers

    def _check(self, stand):
        """Raises OtherKinds if the kinds of a stand are not those of the book."""
        if stand.kinds != self.book.kinds:
            raise OtherKinds()

    def _told(self, stand):
        """What tells the class of a stand: a remainder for each divisor, and an integer for each free part."""
        numbers = self._flat(stand.entries, 0, 0, 1)
        sums = [(divisor, sum([one * other for one, other in zip(numbers, column)]))
                for divisor, column in self._parts]
        return [number % divisor if divisor != 0 else number for divisor, number in sums]

    def folded(self, stand):
        """The stand with the sums over all cells that are taken as one, from (0, 0) on."""
        self._check(stand)
        return self._stand(self._flat(stand.entries, 0, 0, 1))

    def done(self, stand, deeds):
        """The stand behind a script, folded."""
        self._check(stand)
        numbers = self._flat(stand.entries, 0, 0, 1)
        return self._stand([one + other for one, other in zip(numbers, self._change(deeds))])

    def alike(self, one, other):
        """Whether some script leads from one stand to another one on this board."""
        self._check(one)
        self._check(other)
        return not any(self._told(one - other))

    def order(self, stand):
        """The least positive integer times which a stand is alike to the empty one, or None."""
        self._check(stand)
        found = 1
        for (divisor, _), number in zip(self._parts, self._told(stand)):
            if divisor == 0 and number != 0:
                return None
            if divisor != 0:
                found = lcm(found, divisor // gcd(divisor, number))
        return found

    def many(self, m):
        """The number of colourings (m, a, b, tables) of the book."""
        found = 1
        for divisor, _ in self._parts:
            # A free part has the divisor 0, and gcd(m, 0) is m, as it has to be.
            found = found * gcd(m, divisor)
        return found

    def tells(self, one, other):
        """A colouring with the sides of this board that bars two stands, or None if they are alike."""
        self._check(one)
        self._check(other)
        for (divisor, column), number in zip(self._parts, self._told(one - other)):
            if number != 0:
                m = divisor if divisor != 0 else least_missing(number)
                return m, self.a, self.b, rows_of([entry % m for entry in column], self.a, self.b)
        return None
