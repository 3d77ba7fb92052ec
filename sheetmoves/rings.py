"""Rings of a x b cells: x is meant modulo a, y modulo b.

Their numbers stand in flat lists, a part of a * b numbers for each kind: the number at (x, y) stands
at y * a + x in the part of its kind.
"""

from math import gcd, lcm

from sheetmoves.stands import known_stand


def flat_place(kinds, a, b, cell):
    """Where the number at a cell (x, y, kind) stands in a flat list."""
    x, y, kind = cell
    return (kinds.index(kind) * b + y % b) * a + x % a


def flat_numbers(kinds, a, b, entries, deed):
    """The flat list of these entries, moved by (x, y), so many times: deed is (x, y, times)."""
    dx, dy, times = deed
    numbers = [0] * (len(kinds) * a * b)
    for x, y, kind, number in entries:
        numbers[flat_place(kinds, a, b, (x + dx, y + dy, kind))] += times * number
    return numbers


def move_rows(book, a, b, places):
    """The flat list of each of these moves, told by places (name, x, y)."""
    return [flat_numbers(book.kinds, a, b, book[name].entries, (x, y, 1)) for name, x, y in places]


def ring_places(book, a, b):
    """The places (name, x, y) of all moves of a book on the ring, ascending."""
    return [(name, x, y) for name in book.names for x in range(a) for y in range(b)]


def stand_of_flat(kinds, a, b, numbers):
    """The folded stand with these numbers, a flat list."""
    return known_stand(kinds, {
        (x, y, kind): numbers[flat_place(kinds, a, b, (x, y, kind))]
        for x in range(a) for y in range(b) for kind in kinds
    })


def rows_of(numbers, a, b):
    """A table of b rows of a numbers each for each part of a flat list."""
    rows = [tuple(numbers[at:at + a]) for at in range(0, len(numbers), a)]
    return tuple([tuple(rows[at:at + b]) for at in range(0, len(rows), b)])


def places_along(start, a, b, by):
    """The places that come, one behind the other, when the place start is moved by (dx, dy), until it comes round."""
    dx, dy = by
    part, cell = divmod(start, a * b)
    y, x = divmod(cell, a)
    many = lcm(a // gcd(a, dx), b // gcd(b, dy))
    return [(part * b + (y + k * dy) % b) * a + (x + k * dx) % a for k in range(many)]


def sums_along(numbers, a, b, step):
    """The flat list of what stands at each cell, plus what stands at it moved by (dx, dy), and so on, many in all."""
    many, dx, dy = step
    found = [None] * len(numbers)
    for start in range(len(numbers)):
        if found[start] is None:
            places = places_along(start, a, b, (dx, dy))
            whole, rest = divmod(many, len(places))
            # The first k numbers in all, up to twice around, so that no sum is added up again.
            sums = [0]
            for at in places + places:
                sums.append(sums[-1] + numbers[at])
            for k, at in enumerate(places):
                found[at] = whole * sums[len(places)] + sums[k + rest] - sums[k]
    return found
