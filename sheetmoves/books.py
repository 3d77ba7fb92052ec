"""Books: moves with names, which are added to stands at any place."""

from sheetmoves.basics import is_letters, word_behind
from sheetmoves.errors import BadBook, BadText, Clash, OtherKinds, UnknownName
from sheetmoves.stands import (
    comes_behind, entry_lines, entry_of, is_entries, is_kinds, kinds_of, known_stand, lines_of, numbers_of,
)

NO_NAMES = ("kinds", "move", "self")


def is_name(thing):
    """Whether any value is one to eight lower-case letters, and none of the three words that are no names."""
    return is_letters(thing, 8) and thing not in NO_NAMES


def is_move(kinds, thing):
    """Whether any value is a pair of a name and the entries of a stand for these kinds that is not empty."""
    return (isinstance(thing, tuple) and len(thing) == 2 and is_name(thing[0])
            and is_entries(kinds, thing[1]) and len(thing[1]) > 0)


def twice(names):
    """The least of these names that is told more than once, or None."""
    names = sorted(names)
    for one, other in zip(names, names[1:]):
        if one == other:
            return one
    return None


def swapped(moves, sign):
    """These moves, each with what was at (x, y) at (sign * y, x)."""
    return tuple([(name, tuple(sorted([(sign * y, x, kind, number) for x, y, kind, number in entries])))
                  for name, entries in moves])


def moves_of(kinds, lines):
    """The moves that the lines of the text of a book tell behind the first one."""
    names = []
    rows = []
    for at, line in enumerate(lines[1:], start=2):
        name = word_behind("move", line)
        entry = entry_of(kinds, line)
        if entry is not None and rows and comes_behind(entry, rows[-1]):
            rows[-1].append(entry)
        elif is_name(name) and (not rows or (rows[-1] and names[-1] < name)):
            names.append(name)
            rows.append([])
        else:
            raise BadText(at)
    if not rows or not rows[-1]:
        raise BadText(len(lines) + 1)
    return tuple([(name, tuple(entries)) for name, entries in zip(names, rows)])


class Book:
    """Kinds, and moves with names, each the entries of a stand that is not empty."""

    def __init__(self, kinds, moves):
        if not is_kinds(kinds):
            raise BadBook("kinds")
        if not isinstance(moves, tuple) or not moves:
            raise BadBook("moves")
        for move in moves:
            if not is_move(kinds, move):
                raise BadBook(move)
        if not all([one[0] < other[0] for one, other in zip(moves, moves[1:])]):
            raise BadBook("order")
        self.kinds = kinds
        self.moves = moves
        # Neither names nor moves ever change, and walks ask for them deed by deed.
        self._names = tuple([name for name, _ in moves])
        self._stands = {name: known_stand(kinds, numbers_of(entries)) for name, entries in moves}

    @property
    def names(self):
        """The names of the moves, ascending."""
        return self._names

    def __getitem__(self, at):
        if not isinstance(at, str) or at not in self._stands:
            raise UnknownName(at)
        return self._stands[at]

    def __iter__(self):
        raise TypeError("a book is not iterated over")

    def __len__(self):
        return len(self.moves)

    def __eq__(self, other):
        return isinstance(other, Book) and self.kinds == other.kinds and self.moves == other.moves

    def __or__(self, other):
        if self.kinds != other.kinds:
            raise OtherKinds()
        moves = {name: entries for name, entries in self.moves}
        # The names of the other book ascend, so the first clash is the least one.
        for name, entries in other.moves:
            if moves.get(name, entries) != entries:
                raise Clash(name)
            moves[name] = entries
        return Book(self.kinds, tuple([(name, moves[name]) for name in sorted(moves)]))

    def without(self, *names):
        """The book without the moves of these names."""
        for name in names:
            if name not in self.names:
                raise UnknownName(name)
        # If no move is left, making the book raises just the error that is asked for.
        return Book(self.kinds, tuple([move for move in self.moves if move[0] not in names]))

    def renamed(self, **names):
        """The book with the names that are keywords replaced, all at once."""
        for name in sorted(names):
            if name not in self.names:
                raise UnknownName(name)
        if not all([is_name(names[name]) for name in names]):
            raise BadBook("names")
        moves = [(names.get(name, name), entries) for name, entries in self.moves]
        clash = twice([name for name, _ in moves])
        if clash is not None:
            raise Clash(clash)
        return Book(self.kinds, tuple(sorted(moves)))

    def turned(self):
        """The book with each move turned by a quarter: what was at (x, y) is at (-y, x)."""
        return Book(self.kinds, swapped(self.moves, -1))

    def mirrored(self):
        """The book with each move mirrored: what was at (x, y) is at (y, x)."""
        return Book(self.kinds, swapped(self.moves, 1))

    def __str__(self):
        lines = [f"kinds {self.kinds}"]
        for name, entries in self.moves:
            lines.append(f"move {name}")
            lines.extend(entry_lines(entries))
        return "\n".join(lines)

    @classmethod
    def read(cls, text):
        """The book with this text, which may be any value."""
        lines = lines_of(text)
        kinds = kinds_of(lines)
        return cls(kinds, moves_of(kinds, lines))
