"""Rows of elements of a field, and their spans, without a check of what is passed."""


def order_of(row):
    """The index of the first element of a row other than 0, or None."""
    for at, element in enumerate(row):
        if element != 0:
            return at
    return None


def unit_row(length, at):
    """The row of a length with 1 at an index and 0 at all others."""
    return (0,) * at + (1,) + (0,) * (length - at - 1)


def unit_rows(length):
    """The tuple of the rows of a length that have 1 at one index, by ascending indices."""
    return tuple([unit_row(length, at) for at in range(length)])


def scaled(field, factor, row):
    """A row times an element."""
    products = field.products[factor]
    return tuple([products[element] for element in row])


def with_multiple(field, row, factor, other):
    """The sum of a row and of another one times an element."""
    if factor == 0:
        return row
    sums = field.sums
    products = field.products[factor]
    return tuple([sums[element][products[more]] for element, more in zip(row, other)])


def without_multiple(field, row, factor, other):
    """A row less another one times an element."""
    return with_multiple(field, row, field.negatives[factor], other)


def pairing(field, one, other):
    """The sum of the products of the elements of two rows that stand at equal indices."""
    total = 0
    for element, more in zip(one, other):
        total = field.sums[total][field.products[element][more]]
    return total


def combined(field, factors, rows, length):
    """The sum of some rows of a length, each one times an element."""
    total = (0,) * length
    for factor, row in zip(factors, rows):
        total = with_multiple(field, total, factor, row)
    return total


def left_over(field, table, row):
    """What is left of a row without its multiples of plain rows, given as a dict from their orders to them."""
    left = row
    for order in table:
        # Plain rows have 0 at the orders of one another, so the row itself tells all factors.
        left = without_multiple(field, left, row[order], table[order])
    return left


def plain_table(field, rows):
    """The dict from the orders, ascending, to the plain rows of the span of some rows."""
    table = {}
    for row in rows:
        left = left_over(field, table, row)
        order = order_of(left)
        if order is not None:
            more = scaled(field, field.inverses[left[order]], left)
            table = {at: without_multiple(field, table[at], table[at][order], more) for at in table}
            table[order] = more
    return {at: table[at] for at in sorted([int(at) for at in table])}


def plain_of(field, rows):
    """The tuple of the plain rows of the span of some rows."""
    table = plain_table(field, rows)
    return tuple([table[order] for order in table])


def is_within(field, table, row):
    """Whether a row lies in the span of plain rows, given as a dict from their orders to them."""
    return order_of(left_over(field, table, row)) is None


def across_to(field, length, rows):
    """The tuple of the plain rows of all rows of a length that are across to some rows."""
    table = plain_table(field, rows)
    found = []
    for free in range(length):
        if free not in table:
            # Of all places that are no orders one is 1, and the elements at the orders make up for it.
            row = [field.negatives[table[at][free]] if at in table else 0 for at in range(length)]
            row[free] = 1
            found.append(tuple(row))
    return plain_of(field, found)


def power_product(field, one, other):
    """The product of two power rows of one length."""
    total = (0,) * len(one)
    for at, factor in enumerate(one):
        total = with_multiple(field, total, factor, moved(other, at))
    return total


def power_inverse(field, row):
    """The inverse of a power row of the order 0."""
    first = field.inverses[row[0]]
    inverse = [first]
    for at in range(1, len(row)):
        sum_before = pairing(field, row[1:at + 1], inverse[::-1])
        inverse.append(field.products[field.negatives[first]][sum_before])
    return tuple(inverse)


def moved(row, many):
    """The row in which each element stands some places further on, or nearer to the front if they are below 0."""
    if many < 0:
        lost = min(len(row), -many)
        return row[lost:] + (0,) * lost
    ahead = min(len(row), many)
    return (0,) * ahead + row[:len(row) - ahead]


def is_row(field, length, value):
    """Whether a value is a row of a length."""
    return isinstance(value, tuple) and len(value) == length and all([element in field for element in value])
