"""Colourings: tables of numbers modulo m, repeated over the whole sheet, in which stands weigh something."""

from sheetmoves.basics import is_int
from sheetmoves.rings import rows_of, sums_along


def is_row(thing, m, a):
    """Whether any value is a row of a integers from 0 to m - 1."""
    return (isinstance(thing, tuple) and len(thing) == a
            and all([is_int(number) and 0 <= number < m for number in thing]))


def is_table(thing, m, a, b):
    """Whether any value is a table of b rows of a integers from 0 to m - 1."""
    return (isinstance(thing, tuple) and len(thing) == b
            and all([is_row(row, m, a) for row in thing]))


def is_colouring(kinds, thing):
    """Whether any value is a colouring for these kinds."""
    if not isinstance(thing, tuple) or len(thing) != 4:
        return False
    m, a, b, tables = thing
    if not is_int(m) or not is_int(a) or not is_int(b) or m < 2 or a < 1 or b < 1:
        return False
    return (isinstance(tables, tuple) and len(tables) == len(kinds)
            and all([is_table(table, m, a, b) for table in tables]))


def weight_at(colouring, kinds, entries, at):
    """The weight of the stand for these kinds with these entries when it is moved by the pair at."""
    m, a, b, tables = colouring
    dx, dy = at
    return sum([number * tables[kinds.index(kind)][(y + dy) % b][(x + dx) % a]
                for x, y, kind, number in entries]) % m


def weight(colouring, stand):
    """The weight of a stand in a colouring for its kinds."""
    return weight_at(colouring, stand.kinds, stand.entries, (0, 0))


def weight_far(colouring, stand, steps):
    """The weight of a stand repeated by steps (many, dx, dy), one step after the other."""
    m, a, b, tables = colouring
    numbers = [number for table in tables for row in table for number in row]
    # A repeated stand weighs what the stand weighs where the colouring, moved as often, is summed up.
    for step in steps:
        numbers = [number % m for number in sums_along(numbers, a, b, step)]
    return weight((m, a, b, rows_of(numbers, a, b)), stand)


def weighs_nothing(colouring, kinds, entries):
    """Whether a stand weighs 0 in a colouring, wherever it is moved."""
    a, b = colouring[1:3]
    return all([weight_at(colouring, kinds, entries, (x, y)) == 0 for y in range(b) for x in range(a)])


def is_of(book, thing):
    """Whether any value is a colouring of the book."""
    return (is_colouring(book.kinds, thing)
            and all([weighs_nothing(thing, book.kinds, entries) for _, entries in book.moves]))


def moved_table(table, by):
    """The table that has at (x, y) what this one has at (x + dx, y + dy)."""
    dx, dy = by
    wide = len(table[0])
    high = len(table)
    return tuple([tuple([table[(y + dy) % high][(x + dx) % wide] for x in range(wide)])
                  for y in range(high)])


def moved_colouring(colouring, by):
    """The colouring in which each stand weighs what it weighs, moved by a pair of integers, in this one."""
    m, a, b, tables = colouring
    return m, a, b, tuple([moved_table(table, by) for table in tables])
