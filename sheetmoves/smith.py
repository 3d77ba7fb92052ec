"""The normal form of Smith: what the integers modulo some rows of integers are like."""


def nearest(number, pivot):
    """An integer that, times the pivot, comes to a number as near as half the pivot, or nearer."""
    return (2 * number + pivot) // (2 * pivot)


def least_place(rows):
    """The row and the column of a number nearest to 0, but not 0, in rows that have one."""
    least = None
    for at, row in enumerate(rows):
        for across, number in enumerate(row):
            if number != 0 and (least is None or abs(number) < least[0]):
                least = (abs(number), at, across)
    return least[1], least[2]


def row_less(row, times, other):
    """A row less so many times another one."""
    return [number - times * less for number, less in zip(row, other)]


def columns_less(row, times, across):
    """A row with so many times its number in the column across taken off its numbers, one many for each column."""
    return [number - many * row[across] for number, many in zip(row, times)]


def is_multiple(row, pivot):
    """Whether each number of a row is a multiple of the pivot."""
    return all([number % pivot == 0 for number in row])


def mixed_row(rows, at, pivot):
    """The row of the pivot, if need be plus another one, with a number that is no multiple if any row has one."""
    if is_multiple(rows[at], pivot):
        for row in rows:
            if not is_multiple(row, pivot):
                return row_less(rows[at], -1, row)
    return rows[at]


def without_item(row, at):
    """A list without its item at this place."""
    return row[:at] + row[at + 1:]


def unit_rows(width):
    """Rows with a 1 each, the first one in the first column, the next one in the next, and otherwise 0."""
    return [[1 if place == k else 0 for place in range(width)] for k in range(width)]


def normal_form(rows, width):
    """Pairs (divisor, column) that tell the classes of lists of integers modulo sums of the rows.

    All lists have this width. The product of a list and a column is the sum of the products number by
    number. Two lists are in one class exactly if for each pair the product of their difference and the
    column is a multiple of the divisor (is 0, if the divisor is 0). Each divisor divides the next one.
    """
    rows = [row for row in rows if any(row)]
    told = unit_rows(width)
    pairs = []
    # Each turn takes off a row and a column, or makes the number nearest to 0 come still nearer.
    while rows:
        at, across = least_place(rows)
        pivot = rows[at][across]
        rows = [row if k == at else row_less(row, nearest(row[across], pivot), rows[at])
                for k, row in enumerate(rows)]
        if any([row[across] for row in without_item(rows, at)]):
            continue
        mixed = mixed_row(rows, at, pivot)
        times = [0 if k == across else nearest(number, pivot) for k, number in enumerate(mixed)]
        told = [columns_less(row, times, across) for row in told]
        # No other row has anything but 0 in the column of the pivot, so no other row is changed.
        rows[at] = columns_less(mixed, times, across)
        if not any(without_item(rows[at], across)):
            pairs.append((abs(pivot), [row[across] for row in told]))
            told = [without_item(row, across) for row in told]
            rows = [without_item(row, across) for row in without_item(rows, at) if any(row)]
    return pairs + [(0, [row[k] for row in told]) for k in range(len(told[0]))]
