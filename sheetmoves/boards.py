"""Boards: rings of cells, on which all classes of stands are told."""

from math import gcd, lcm

from sheetmoves.rings import flat_numbers, move_rows, ring_places, rows_of, stand_of_flat, sums_along
from sheetmoves.scripts import is_told_as_deed
from sheetmoves.smith import normal_form
from sheetmoves.stands import check_kinds


def least_missing(number):
    """The least integer from 2 on that does not divide a number, which is not 0."""
    m = 2
    while number % m == 0:
        m += 1
    return m


class Board:
    """The sheet of a book with cells taken as one whose x differ by multiples of a, and y by multiples of b."""

    def __init__(self, book, a, b):
        self.book = book
        self.a = a
        self.b = b
        moves = move_rows(book, a, b, ring_places(book, a, b))
        # What is told by a remainder of 1 tells nothing.
        self._parts = [part for part in normal_form(moves, len(book.kinds) * a * b) if part[0] != 1]

    @property
    def divisors(self):
        """The integers from 2 on by which remainders tell classes, each dividing the next one."""
        return tuple([divisor for divisor, _ in self._parts if divisor != 0])

    @property
    def free(self):
        """How many integers tell classes, besides the remainders."""
        return len([divisor for divisor, _ in self._parts if divisor == 0])

    def _flat(self, entries, deed):
        """The flat list of these entries, moved by (x, y), so many times: deed is (x, y, times)."""
        return flat_numbers(self.book.kinds, self.a, self.b, entries, deed)

    def _folded(self, numbers):
        """The folded stand with these numbers, a flat list."""
        return stand_of_flat(self.book.kinds, self.a, self.b, numbers)

    def _item_change(self, item):
        """The flat list of what an item of a script changes."""
        if is_told_as_deed(item):
            name, x, y, times = item
            return self._flat(self.book[name].entries, (x, y, times))
        many, dx, dy, script = item
        # A cell gets what the script does at the cells from which the loop comes to it.
        return sums_along(self._change(script), self.a, self.b, (many, -dx, -dy))

    def _change(self, deeds):
        """The flat list of what a script changes."""
        numbers = self._flat((), (0, 0, 1))
        for item in deeds:
            numbers = [one + other for one, other in zip(numbers, self._item_change(item))]
        return numbers

    def _told(self, stand):
        """What tells the class of a stand: a remainder for each divisor, and an integer for each free part."""
        numbers = self._flat(stand.entries, (0, 0, 1))
        sums = [(divisor, sum([one * other for one, other in zip(numbers, column)]))
                for divisor, column in self._parts]
        return [number % divisor if divisor != 0 else number for divisor, number in sums]

    def folded(self, stand):
        """The stand with the sums over all cells that are taken as one, from (0, 0) on."""
        check_kinds(self.book.kinds, (stand,))
        return self._folded(self._flat(stand.entries, (0, 0, 1)))

    def done(self, stand, deeds):
        """The stand behind a script, folded."""
        check_kinds(self.book.kinds, (stand,))
        numbers = self._flat(stand.entries, (0, 0, 1))
        return self._folded([one + other for one, other in zip(numbers, self._change(deeds))])

    def alike(self, one, other):
        """Whether some script leads from one stand to another one on this board."""
        check_kinds(self.book.kinds, (one, other))
        return not any(self._told(one - other))

    def order(self, stand):
        """The least positive integer times which a stand is alike to the empty one, or None."""
        check_kinds(self.book.kinds, (stand,))
        found = 1
        for (divisor, _), number in zip(self._parts, self._told(stand)):
            if divisor == 0 and number != 0:
                return None
            if divisor != 0:
                found = lcm(found, divisor // gcd(divisor, number))
        return found

    def many(self, m):
        """The number of colourings (m, a, b, tables) of the book."""
        found = 1
        for divisor, _ in self._parts:
            # A free part has the divisor 0, and gcd(m, 0) is m, as it has to be.
            found = found * gcd(m, divisor)
        return found

    def tells(self, one, other):
        """A colouring with the sides of this board that bars two stands, or None if they are alike."""
        check_kinds(self.book.kinds, (one, other))
        for (divisor, column), number in zip(self._parts, self._told(one - other)):
            if number != 0:
                m = divisor if divisor != 0 else least_missing(number)
                return m, self.a, self.b, rows_of([entry % m for entry in column], self.a, self.b)
        return None
