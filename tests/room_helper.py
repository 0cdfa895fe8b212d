"""What the tests of rooms and chains share: own lists of spans, of rooms, and of their rows."""
from itertools import combinations, product

from slantways.room.fields import Field
from slantways.way.ways import Slope

F2, F3, F4, F9 = Field(2), Field(3), Field(4), Field(9)
# Slopes over fields for which all spans can be gone through.
SMALL = [(F2, Slope(2, 3)), (F3, Slope(3, 2)), (F4, Slope(2, 3)), (F9, Slope(2, 3)), (F2, Slope(2, 5)),
         (F3, Slope(5, 2)), (F2, Slope(3, 4)), (F2, Slope(4, 3)), (F2, Slope(2, 7)), (F2, Slope(1, 4)),
         (F3, Slope(5, 1)), (F9, Slope(1, 1))]


def width_of(slope):
    """The width of a slope."""
    return (slope.rises - 1) * (slope.steps - 1)


def order_of(row):
    """The index of the first element other than 0, or None."""
    return next((at for at, element in enumerate(row) if element != 0), None)


def combine(field, length, factors, rows):
    """The sum of some rows of a length, each one times an element."""
    total = [0] * length
    for factor, row in zip(factors, rows):
        total = [field.plus(x, field.times(factor, y)) for x, y in zip(total, row)]
    return tuple(total)


def span(field, length, rows):
    """The set of all rows in the span of some rows."""
    return {combine(field, length, factors, rows) for factors in product(field.members, repeat=len(rows))}


def all_spans(field, length, sizes=None):
    """The plain rows of all spans of rows of a length, or of those with so many plain rows."""
    for many in range(length + 1) if sizes is None else sizes:
        for orders in combinations(range(length), many):
            free = [(at, place) for at, order in enumerate(orders) for place in range(order + 1, length)
                    if place not in orders]
            for elements in product(field.members, repeat=len(free)):
                rows = [[int(place == order) for place in range(length)] for order in orders]
                for (at, place), element in zip(free, elements):
                    rows[at][place] = element
                yield tuple(tuple(row) for row in rows)


def moved(row, many):
    """A row moved further on by some places."""
    return ((0,) * many + row)[:len(row)]


def is_own_room(field, slope, rows):
    """Whether the span of some rows is a room, by the words of [9.2]."""
    width = width_of(slope)
    spanned = span(field, width, rows)
    if width > 0 and not any(row[0] != 0 for row in spanned):
        return False
    return all(moved(row, side) in spanned for row in rows for side in (slope.rises, slope.steps))


def own_rooms(field, slope):
    """The list of the bases of all rooms."""
    return [rows for rows in all_spans(field, width_of(slope)) if is_own_room(field, slope, rows)]


def pairing(field, one, other):
    """The sum of the products of elements at equal indices."""
    total = 0
    for x, y in zip(one, other):
        total = field.plus(total, field.times(x, y))
    return total


def series_product(field, one, other):
    """The product of two power rows of one length."""
    return tuple(pairing(field, one[:k + 1], other[:k + 1][::-1]) for k in range(len(one)))
