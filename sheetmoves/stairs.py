"""Sums of rows of integers: whether a list of integers is one, and how often each row is in it."""

from sheetmoves.smith import nearest, row_less


class Stairs:
    """Rows with the same sums as some given ones, none of which begins in the column of another one.

    A row begins in the first column where it is not 0. Rows are only ever changed by taking other
    rows off them, and each time is kept, so that sums can be told by the given rows, too.
    """

    def __init__(self, rows):
        self._rows = list(rows)
        # Which row begins in a column.
        self._begins = {}
        # What was taken off: (row, other row, times).
        self._taken = []
        for at in range(len(self._rows)):
            if self._place(at):
                self._shorten()

    def _take_off(self, at, other, column):
        """Takes another row off a row until its number in this column is as near to 0 as can be."""
        times = nearest(self._rows[at][column], self._rows[other][column])
        if times != 0:
            self._rows[at] = row_less(self._rows[at], times, self._rows[other])
            self._taken.append((at, other, times))

    def _place(self, at):
        """Takes rows off a row until it begins where none does; whether any row begins otherwise then."""
        news = False
        for column in range(len(self._rows[at])):
            while self._rows[at][column] != 0:
                other = self._begins.get(column)
                if other is None:
                    self._begins[column] = at
                    return True
                self._take_off(at, other, column)
                if self._rows[at][column] != 0:
                    # The nearer one stays, as in Euclid's algorithm; the other one goes on.
                    self._begins[column] = at
                    at = other
                    news = True
        return news

    def _shorten(self):
        """Takes the rows that begin further right off each row: otherwise numbers grow beyond all bounds."""
        columns = sorted(self._begins)
        for k, column in reversed(list(enumerate(columns))):
            for further in columns[k + 1:]:
                self._take_off(self._begins[column], self._begins[further], further)

    def times(self, numbers):
        """How often each of the given rows is in a sum with these numbers, a list, or None if there is none."""
        found = [0] * len(self._rows)
        rest = list(numbers)
        for column in range(len(rest)):
            if rest[column] != 0:
                at = self._begins.get(column)
                if at is None or rest[column] % self._rows[at][column] != 0:
                    return None
                found[at] = rest[column] // self._rows[at][column]
                rest = row_less(rest, found[at], self._rows[at])
        # What was taken off last comes back first.
        for at, other, times in self._taken[::-1]:
            found[other] = found[other] - times * found[at]
        return found
