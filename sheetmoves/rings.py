"""Rings of a x b cells: x is meant modulo a, y modulo b.

Their numbers stand in flat lists, a part of a * b numbers for each kind: the number at (x, y) stands
at y * a + x in the part of its kind.
"""

from math import gcd, lcm


def flat_place(kinds, a, b, cell):
    """Where the number at a cell (x, y, kind) stands in a flat list."""
    x, y, kind = cell
    return (kinds.index(kind) * b + y % b) * a + x % a


def rows_of(numbers, a, b):
    """A table of b rows of a numbers each for each part of a flat list."""
    rows = [tuple(numbers[at:at + a]) for at in range(0, len(numbers), a)]
    return tuple([tuple(rows[at:at + b]) for at in range(0, len(rows), b)])


def places_along(start, a, b, by):
    """The places that come, one behind the other, when the place start is moved by (dx, dy), until it comes round."""
    dx, dy = by
    part, cell = divmod(start, a * b)
    y, x = divmod(cell, a)
    many = lcm(a // gcd(a, dx), b // gcd(b, dy))
    return [(part * b + (y + k * dy) % b) * a + (x + k * dx) % a for k in range(many)]


def sums_along(numbers, a, b, step):
    """The flat list of what stands at each cell, plus what stands at it moved by (dx, dy), and so on, many in all."""
    many, dx, dy = step
    found = [None] * len(numbers)
    for start in range(len(numbers)):
        if found[start] is None:
            places = places_along(start, a, b, (dx, dy))
            whole, rest = divmod(many, len(places))
            # The first k numbers in all, up to twice around, so that no sum is added up again.
            sums = [0]
            for at in places + places:
                sums.append(sums[-1] + numbers[at])
            for k, at in enumerate(places):
                found[at] = whole * sums[len(places)] + sums[k + rest] - sums[k]
    return found
