"""Stands: integers of a few kinds in the cells of an endless sheet."""

from sheetmoves.basics import integer_of, is_int, is_letters, word_behind
from sheetmoves.errors import BadStand, BadText, OtherKinds


def is_kinds(thing):
    """Whether any value is one to three different lower-case letters, ascending."""
    return is_letters(thing, 3) and list(thing) == sorted(set(thing))


def is_entry(kinds, thing):
    """Whether any value is an entry (x, y, kind, number) of a stand for these kinds."""
    if not isinstance(thing, tuple) or len(thing) != 4:
        return False
    x, y, kind, number = thing
    # The length counts: the empty string and "ab" are parts of the kinds "ab", too.
    if not isinstance(kind, str) or len(kind) != 1 or kind not in kinds:
        return False
    return is_int(x) and is_int(y) and is_int(number) and number != 0


def numbers_of(entries):
    """The numbers that entries tell, a dict from (x, y, kind)."""
    return {(x, y, kind): number for x, y, kind, number in entries}


def in_order(entries, numbers):
    """Whether entries, which tell these numbers, are ascending, no two with the same cell and kind."""
    return len(numbers) == len(entries) and list(entries) == sorted(entries)


def is_entries(kinds, thing):
    """Whether any value is the entries of a stand for these kinds."""
    return (isinstance(thing, tuple) and all([is_entry(kinds, entry) for entry in thing])
            and in_order(thing, numbers_of(thing)))


def entries_from(numbers):
    """The entries of the stand with these numbers, a dict from (x, y, kind)."""
    return tuple(sorted([(x, y, kind, number) for (x, y, kind), number in numbers.items() if number != 0]))


def numbers_sum(one, other, times):
    """The numbers of one stand plus so many times another one, by the entries of both."""
    numbers = {(x, y, kind): number for x, y, kind, number in one}
    for x, y, kind, number in other:
        numbers[x, y, kind] = numbers.get((x, y, kind), 0) + times * number
    return numbers


def entry_lines(entries):
    """The lines of a text that tell these entries."""
    return [f"{x} {y} {kind} {number}" for x, y, kind, number in entries]


def entry_of(kinds, line):
    """The entry for these kinds that a line tells, or None."""
    words = line.split(" ")
    if len(words) != 4:
        return None
    entry = (integer_of(words[0]), integer_of(words[1]), words[2], integer_of(words[3]))
    return entry if is_entry(kinds, entry) else None


def comes_behind(entry, entries):
    """Whether an entry may follow these ones, which are in order."""
    return len(entries) == 0 or entries[-1][:3] < entry[:3]


def lines_of(text):
    """The lines of a text, which may be any value."""
    if not isinstance(text, str):
        raise BadText(0)
    return text.split("\n")


def kinds_of(lines):
    """The kinds that the first of these lines tells."""
    kinds = word_behind("kinds", lines[0])
    if not is_kinds(kinds):
        raise BadText(1)
    return kinds


class Stand:
    """An integer of each kind at each cell, only finitely many of them other than 0."""

    def __init__(self, kinds, entries=()):
        if not is_kinds(kinds):
            raise BadStand("kinds")
        if not isinstance(entries, tuple):
            raise BadStand("entries")
        for entry in entries:
            if not is_entry(kinds, entry):
                raise BadStand(entry)
        numbers = numbers_of(entries)
        if not in_order(entries, numbers):
            raise BadStand("order")
        self.kinds = kinds
        self.entries = entries
        self._numbers = numbers

    def __add__(self, other):
        if self.kinds != other.kinds:
            raise OtherKinds()
        return known_stand(self.kinds, numbers_sum(self.entries, other.entries, 1))

    def __sub__(self, other):
        if self.kinds != other.kinds:
            raise OtherKinds()
        return known_stand(self.kinds, numbers_sum(self.entries, other.entries, -1))

    def __mul__(self, other):
        return known_stand(self.kinds, numbers_sum((), self.entries, other))

    def moved(self, by):
        """The stand moved by a pair of integers."""
        dx, dy = by
        return known_stand(self.kinds, {
            (x + dx, y + dy, kind): number for x, y, kind, number in self.entries
        })

    def __getitem__(self, at):
        return self._numbers.get(at, 0)

    def __iter__(self):
        raise TypeError("a stand is not iterated over")

    def __contains__(self, x):
        if not isinstance(x, tuple) or len(x) != 2 or not is_int(x[0]) or not is_int(x[1]):
            return False
        return any([(x[0], x[1], kind) in self._numbers for kind in self.kinds])

    def __len__(self):
        return len(self.entries)

    def __eq__(self, other):
        return isinstance(other, Stand) and self.kinds == other.kinds and self.entries == other.entries

    @property
    def box(self):
        """(left, low, right, high) around the entries, or None if there are none."""
        if not self.entries:
            return None
        across = [entry[0] for entry in self.entries]
        upward = [entry[1] for entry in self.entries]
        return min(across), min(upward), max(across), max(upward)

    def __str__(self):
        lines = [f"kinds {self.kinds}"]
        lines.extend(entry_lines(self.entries))
        return "\n".join(lines)

    @classmethod
    def read(cls, text):
        """The stand with this text, which may be any value."""
        lines = lines_of(text)
        kinds = kinds_of(lines)
        entries = []
        for at, line in enumerate(lines[1:], start=2):
            entry = entry_of(kinds, line)
            if entry is None or not comes_behind(entry, entries):
                raise BadText(at)
            entries.append(entry)
        return cls(kinds, tuple(entries))


def known_stand(kinds, numbers):
    """The stand with these numbers, a dict from (x, y, kind), all of which are known to be right.

    The program makes stands of what it has just worked out: to check each entry once more takes
    longer than the rest. The dict belongs to the stand from here on.
    """
    entries = entries_from(numbers)
    stand = Stand(kinds)
    stand.entries = entries
    # Without what has come to 0, sums of sums do not grow longer and longer.
    stand._numbers = numbers if len(numbers) == len(entries) else numbers_of(entries)
    return stand


def check_kinds(kinds, stands):
    """Raises OtherKinds if one of these stands, or books, has other kinds than these."""
    if not all([stand.kinds == kinds for stand in stands]):
        raise OtherKinds()
