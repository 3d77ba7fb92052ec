"""Books, stands and checks of their own, as the tests of papers, rounds, findings and the console need them."""

from sheetmoves.books import Book
from sheetmoves.stands import Stand

LIE = ((0, 0, "a", 1), (1, 0, "a", 1), (2, 0, "a", 1))
UP = ((0, 0, "a", 1), (0, 1, "a", 1), (0, 2, "a", 1))
BARS = Book("a", (("lie", ((0, 0, "a", 1), (1, 0, "a", 1), (2, 0, "a", 1))), ("stand", ((0, 0, "a", 1), (0, 1, "a", 1), (0, 2, "a", 1)))))
LEAP = Book("a", (("leap", ((0, 0, "a", 1), (1, 0, "a", 1), (2, 0, "a", -1))), ("up", ((0, 0, "a", 1), (0, 1, "a", 1), (0, 2, "a", -1)))))
STEP = Book("a", (("step", ((0, 0, "a", -1), (2, 0, "a", 1))),))
ONE = Stand("a", ((0, 0, "a", 1),))
NONE = Stand("a")
# The kinds change places with each step to the right, and six of one kind are nothing.
SWAP = Book("ab", (("p", ((0, 0, "a", -1), (1, 0, "b", 1))), ("q", ((0, 0, "b", -1), (1, 0, "a", 1))),
                   ("six", ((7, 7, "a", 6),)), ("up", ((0, 0, "a", -1), (0, 1, "a", 1)))))
# Far entries; each kind goes round by itself.
TURNS = Book("abc", (("l", ((-50, 3, "a", -1), (-48, 3, "a", 1), (-48, 6, "b", 2))), ("m", ((0, 0, "b", -1), (1, 1, "b", 1))),
                     ("n", ((0, 0, "b", 3), (0, 0, "c", 1))), ("o", ((10 ** 6, 0, "a", 1), (10 ** 6, 1, "a", -1)))))
NINES = Book("a", (("grow", ((0, 0, "a", 9), (1, 0, "a", -1))), ("up", ((0, 0, "a", 1), (0, 1, "a", -1)))))


def any_values():
    """Values of all sorts."""
    return [
        None, True, False, 0, 1, 2, -1, 10 ** 399, "", "a", "script", "colouring", "round", "leads", " ", "\n", "x" * 20000,
        (), ((),), (None,), ("script",), ("script", None), ("colouring", ()), ("round", ((),)), [], [()], {}, {"script": ()},
        [[[[]]]], (0, 0, 0, 0), ("lie", 0, 0, 1), (2, 1, 1, (((0,),),)), (("lie", 0, 0, 1),), Stand("a"), BARS,
        (Stand("a"), BARS), tuple(range(2000)),
    ]


def otherwise(value):
    """All values that are like this one but for one part, at any depth."""
    if isinstance(value, tuple):
        yield list(value)
        yield value + (value[-1:] or (0,))
        yield {part: 0 for part in value if isinstance(part, (int, str))}
        for at, part in enumerate(value):
            yield value[:at] + value[at + 1:]
            for other in otherwise(part):
                yield value[:at] + (other,) + value[at + 1:]
        for at in range(len(value) - 1):
            yield value[:at] + (value[at + 1], value[at]) + value[at + 2:]
        return
    yield None
    yield [value]
    yield (value,)
    if isinstance(value, int):
        yield from (value + 1, value - 1, -value, str(value), bool(value), value + 10 ** 30)
    if isinstance(value, str):
        yield from (value + "a", value[:-1], value.upper(), "zz", 0, True)


def is_plain_int(thing):
    return type(thing) is int


def sums_by_deeds(book, deeds):
    """What deeds add, as a dict from (x, y, kind), without what is 0."""
    moves = dict(book.moves)
    numbers = {}
    for name, x, y, times in deeds:
        for right, up, kind, number in moves[name]:
            numbers[x + right, y + up, kind] = numbers.get((x + right, y + up, kind), 0) + times * number
    return {at: number for at, number in numbers.items() if number != 0}


def as_numbers(stand):
    return {(x, y, kind): number for x, y, kind, number in stand.entries}


def right_script(book, stand, thing):
    """Whether a value is a laid script with this change, told without the package."""
    if type(thing) is not tuple:
        return False
    for deed in thing:
        if type(deed) is not tuple or len(deed) != 4 or type(deed[0]) is not str or not all(map(is_plain_int, deed[1:])):
            return False
        if deed[0] not in dict(book.moves) or deed[3] == 0:
            return False
    if list(thing) != sorted(thing) or len({deed[:3] for deed in thing}) != len(thing):
        return False
    return sums_by_deeds(book, thing) == as_numbers(stand)


def weight_of(colouring, kinds, entries):
    m, a, b, tables = colouring
    return sum(number * tables[kinds.index(kind)][y % b][x % a] for x, y, kind, number in entries) % m


def is_plainly_of(book, thing):
    """Whether a value is a colouring of the book, told without the package."""
    if type(thing) is not tuple or len(thing) != 4 or not all(map(is_plain_int, thing[:3])) or type(thing[3]) is not tuple:
        return False
    m, a, b, tables = thing
    if m < 2 or a < 1 or b < 1 or len(tables) != len(book.kinds):
        return False
    for table in tables:
        if type(table) is not tuple or len(table) != b:
            return False
        for row in table:
            if type(row) is not tuple or len(row) != a or not all(is_plain_int(n) and 0 <= n < m for n in row):
                return False
    for _, entries in book.moves:
        for right in range(a):
            for up in range(b):
                moved = [(x + right, y + up, kind, number) for x, y, kind, number in entries]
                if weight_of(thing, book.kinds, moved) != 0:
                    return False
    return True


def right_colouring(book, stand, thing):
    """Whether a value is a colouring of the book in which a stand weighs something, told without the package."""
    return is_plainly_of(book, thing) and weight_of(thing, book.kinds, stand.entries) != 0


def right_paper(book, stand, thing):
    """Whether a value is a paper for the empty stand and this one."""
    if type(thing) is not tuple or len(thing) != 2 or type(thing[0]) is not str:
        return False
    if thing[0] == "script":
        return right_script(book, stand, thing[1])
    return thing[0] == "colouring" and right_colouring(book, stand, thing[1])


def right_covers(book, other, thing):
    """Whether a value is a paper, told without the package."""
    if type(thing) is not tuple or not thing or type(thing[0]) is not str:
        return False
    moves = [(name, Stand(other.kinds, entries)) for name, entries in other.moves]
    if thing[0] == "covers":
        return (len(thing) == 2 and type(thing[1]) is tuple and len(thing[1]) == len(moves)
                and all(right_script(book, stand, script) for (_, stand), script in zip(moves, thing[1])))
    return (thing[0] == "lacks" and len(thing) == 3 and type(thing[1]) is str and thing[1] in dict(moves)
            and right_colouring(book, dict(moves)[thing[1]], thing[2]))


def steps_of(book, a, b):
    return [(kind, side, Stand(book.kinds, tuple(sorted(((0, 0, kind, -1), (*to, kind, 1))))))
            for kind in book.kinds for side, to in (("x", (a, 0)), ("y", (0, b)))]


def right_round(book, a, b, thing):
    """Whether a value is a paper, told without the package."""
    if type(thing) is not tuple or not thing or type(thing[0]) is not str:
        return False
    steps = steps_of(book, a, b)
    if thing[0] == "round":
        if len(thing) != 2 or type(thing[1]) is not tuple or len(thing[1]) != len(book.kinds):
            return False
        if not all(type(pair) is tuple and len(pair) == 2 for pair in thing[1]):
            return False
        scripts = [script for pair in thing[1] for script in pair]
        return all(right_script(book, stand, script) for (_, _, stand), script in zip(steps, scripts))
    if thing[0] != "loose" or len(thing) != 4:
        return False
    return any(type(thing[1]) is str and type(thing[2]) is str and thing[1:3] == (kind, side) and right_colouring(book, stand, thing[3])
               for kind, side, stand in steps)


def is_in_sums(rows, target):
    """Whether a list is a sum of integer multiples of rows, by Euclid's algorithm column after column."""
    rows = [list(row) for row in rows]
    target = list(target)
    for at in range(len(target)):
        begin = [row for row in rows if row[at] != 0]
        rest = [row for row in rows if row[at] == 0]
        while len(begin) > 1:
            begin.sort(key=lambda row: abs(row[at]))
            least = begin[0]
            reduced = []
            for row in begin[1:]:
                times = row[at] // least[at]
                reduced.append([one - times * other for one, other in zip(row, least)])
            begin = [least] + [row for row in reduced if row[at] != 0]
            rest += [row for row in reduced if row[at] == 0 and any(row)]
        if target[at] != 0:
            if not begin or target[at] % begin[0][at] != 0:
                return False
            times = target[at] // begin[0][at]
            target = [one - times * other for one, other in zip(target, begin[0])]
        rows = rest
    return True


def leads_in_frame(book, stand, frame):
    """Whether some deeds within a rectangle add this stand."""
    left, low, right, high = frame
    cells = [(x, y, kind) for x in range(left, right + 1) for y in range(low, high + 1) for kind in book.kinds]
    rows = []
    for _, entries in book.moves:
        for dx in range(left - entries[0][0] - 9, right - entries[0][0] + 10):
            for dy in range(low - entries[0][1] - 9, high - entries[0][1] + 10):
                numbers = {(x + dx, y + dy, kind): number for x, y, kind, number in entries}
                if all(left <= x <= right and low <= y <= high for x, y, _ in numbers):
                    rows.append([numbers.get(cell, 0) for cell in cells])
    numbers = as_numbers(stand)
    return is_in_sums(rows, [numbers.get(cell, 0) for cell in cells])


def on_ring(book, a, b, entries):
    """The numbers of a stand on a board, in a list."""
    row = [0] * (a * b * len(book.kinds))
    for x, y, kind, number in entries:
        row[(x % a * b + y % b) * len(book.kinds) + book.kinds.index(kind)] += number
    return row


def unlike_on_board(book, stand, a, b):
    """Whether a stand and the empty one are unlike on a board."""
    rows = [on_ring(book, a, b, [(x + dx, y + dy, kind, number) for x, y, kind, number in entries])
            for _, entries in book.moves for dx in range(a) for dy in range(b)]
    return not is_in_sums(rows, on_ring(book, a, b, stand.entries))


def unlike_within(book, stand, sides):
    return any(unlike_on_board(book, stand, a, b) for a in range(1, sides + 1) for b in range(1, sides + 1))


def some_entries(source, kinds, wide, high, most=6, numbers=9):
    found = {}
    for _ in range(source.randrange(1, most + 1)):
        cell = (source.randrange(wide), source.randrange(high), source.choice(kinds))
        found[cell] = source.choice((-1, 1)) * source.randrange(1, numbers + 1)
    return tuple(sorted((*cell, number) for cell, number in found.items()))


def some_book(source, kinds, wide=4, high=4):
    """A book with one to four moves; each lies within a square of 4 x 4 cells anywhere."""
    moves = []
    for name in "pqrs"[:source.randrange(1, 5)]:
        stand = Stand(kinds, some_entries(source, kinds, wide, high, numbers=source.choice((1, 2, 9))))
        moves.append((name, stand.moved((source.randrange(-99, 99), source.randrange(-99, 99))).entries))
    return Book(kinds, tuple(moves))


def told_sizes(source):
    """Kinds, most, sides and a width and height of a box, so small that all can be gone through."""
    kinds = source.choice(("a", "ab", "xyz"))
    sides = source.randrange(1, {1: 4, 2: 3, 3: 2}[len(kinds)] + 1)
    most = source.randrange(2) if len(kinds) < 3 else 0
    wide = source.randrange(1, 4)
    high = source.randrange(1, 3) if len(kinds) < 3 else 1
    return kinds, most, sides, wide, high
