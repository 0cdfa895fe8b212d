"""Chains of rooms, their orders and their numbers."""
from math import factorial

from slantways.checks import is_number, is_whole_between
from slantways.count.tables import powers
from slantways.count.wishes import wishes_of
from slantways.errors import InvalidChain, InvalidOperation, TooMany
from slantways.room.fields import is_rows
from slantways.room.rooms import check_room, check_room_shelf, check_room_slope, check_width
from slantways.room.spans import is_within, order_of, plain_table, unit_rows
from slantways.room.steps import (
    least_order, led, room_beside, series_of, sizes_of, space_beside, steady_planes, table_of,
)
from slantways.rows import spaced
from slantways.shelf.shelves import check_shelf, shelves
from slantways.way.ways import check_slope

MAX_LISTED = 5000
MAX_DISTANT = 100000


class Chain:
    """A chain on a room, told by its spaces of coordinates."""

    def __init__(self, room, spaces):
        check_room(room)
        plain = plain_spaces(room, spaces)
        if plain is None:
            raise InvalidChain("these are not the spaces of a chain on the room")
        self._room = room
        self._spaces = plain
        self._orders = orders_of(room, self._all_spaces())

    @property
    def room(self):
        """The room that the chain is on."""
        return self._room

    @property
    def spaces(self):
        """The tuple of the tuples of the plain rows of the spaces."""
        return self._spaces

    @property
    def orders(self):
        """The order row of the chain."""
        return self._orders

    def _all_spaces(self):
        """The tuple of the coordinates of all sets of the chain, from the room on to that of the rises moved."""
        return (unit_rows(self._room.slope.rises),) + self._spaces + ((),)

    def all_rooms(self):
        """The tuple of the rooms that the sets of the chain are, divided by the powers of their least orders."""
        return tuple([room_beside(self._room, space) for space in self._all_spaces()])

    def turned(self):
        """The chain that begins with the second set of this one."""
        spaces = self._all_spaces()
        least = least_order(series_of(self._room, spaces[1]))
        other = room_beside(self._room, spaces[1])
        return Chain(other, tuple([space_beside(self._room, least, other, space) for space in spaces[2:]]))

    def __len__(self):
        return len(self._orders)

    def __eq__(self, other):
        return isinstance(other, Chain) and self._room == other._room and self._spaces == other._spaces

    def __str__(self):
        return f"chain {spaced(self._orders)} over {self._room.field.size}"


def is_steady_span(field, table, plain):
    """Whether a span, given as a dict of its plain rows, holds what a step table leads it to."""
    rows = [plain[order] for order in plain]
    return all([is_within(field, plain, row) for row in led(field, table, rows)])


def plain_spaces(room, value):
    """The tuple of the plain rows of the spaces of a chain, or None if a value does not tell a chain."""
    rises = room.slope.rises
    if not isinstance(value, tuple) or len(value) != rises - 1:
        return None
    table = table_of(room)
    outer = plain_table(room.field, unit_rows(rises))
    found = []
    for at, rows in enumerate(value):
        if not is_rows(room.field, rises, rows):
            return None
        inner = plain_table(room.field, rows)
        plain = tuple([inner[order] for order in inner])
        if len(plain) != rises - 1 - at or not all([is_within(room.field, outer, row) for row in plain]):
            return None
        if not is_steady_span(room.field, table, inner):
            return None
        found.append(plain)
        outer = inner
    return tuple(found)


def orders_of(room, spaces):
    """The order row of a chain with coordinates of all its sets."""
    orders = []
    for outer, inner in zip(spaces, spaces[1:]):
        kept = [order_of(row) for row in inner]
        orders.extend([room.shelf.rise_makers[order_of(row)] for row in outer if order_of(row) not in kept])
    return tuple(orders)


def step_table(room):
    """The step table of a room."""
    check_room(room)
    return table_of(room)


def step_sizes(room):
    """The tuple of the step sizes of a room."""
    check_room(room)
    return sizes_of(room.field, table_of(room))


def is_chain(room, value):
    """Whether a value are the spaces of a chain on a room."""
    check_room(room)
    return plain_spaces(room, value) is not None


def descents(field, table, rows):
    """A generator that yields the spaces within a steady span of all chains that go through it, ascending."""
    if len(rows) == 1:
        yield ()
    else:
        for plane in steady_planes(field, table, rows):
            for spaces in descents(field, table, plane):
                yield (plane,) + spaces


def chains(room):
    """A generator that yields all chains on a room, by their spaces, ascending."""
    check_room(room)
    table = table_of(room)
    units = unit_rows(room.slope.rises)
    for spaces in descents(room.field, table, units):
        yield Chain(room, spaces)


def number_by_sizes(size, sizes, known):
    """How many chains a room over a field of a size has, by its step sizes; known numbers are kept in a dict."""
    if sizes not in known:
        places = powers(size, len(sizes))
        total = 0
        for step in range(1, sizes[0] + 1):
            if step in sizes:
                last = len([one for one in sizes if one >= step])
                more = len([one for one in sizes if one > step])
                shorter = (step - 1,) if step > 1 else ()
                rest = sizes[:last - 1] + shorter + sizes[last:]
                lines = (places[last] - places[more]) // (size - 1)
                total = total + lines * number_by_sizes(size, rest, known)
        known[sizes] = total
    return known[sizes]


def chain_number(room):
    """How many chains are on a room."""
    sizes = step_sizes(room)
    return number_by_sizes(room.field.size, sizes, {(): 1})


def is_order_row(shelf, value):
    """Whether a value is an order row of a shelf."""
    check_shelf(shelf)
    check_width(shelf.slope)
    if not isinstance(value, tuple) or not all([is_number(number) for number in value]):
        return False
    ahead = {}
    for number in value:
        if number not in shelf.rise_makers or number in ahead or not is_next(shelf, ahead, number):
            return False
        ahead[number] = True
    return len(ahead) == shelf.slope.rises


def is_next(shelf, ahead, maker):
    """Whether a rise maker can follow some others in an order row."""
    before = maker - shelf.slope.steps
    return before not in shelf or before in ahead


def rows_behind(shelf, row):
    """A generator that yields all order rows of a shelf that begin with a row, ascending."""
    if len(row) == shelf.slope.rises:
        yield row
    else:
        for maker in shelf.rise_makers:
            if maker not in row and is_next(shelf, row, maker):
                longer = row + (maker,)
                yield from rows_behind(shelf, longer)


def order_rows(shelf):
    """A generator that yields all order rows of a shelf, ascending."""
    check_shelf(shelf)
    check_width(shelf.slope)
    yield from rows_behind(shelf, ())


def is_continued(slope, value):
    """Whether a value is a tuple of integers, one for each rise, that have unlike rests by the rises."""
    if not isinstance(value, tuple) or len(value) != slope.rises:
        return False
    if not all([is_whole_between(number, -MAX_DISTANT, MAX_DISTANT) for number in value]):
        return False
    return len({number % slope.rises: True for number in value}) == slope.rises


def wish_row(slope, row):
    """The tuple of the wishes of a tuple of integers of unlike rests by the rises."""
    check_slope(slope)
    check_width(slope)
    if not is_continued(slope, row):
        raise InvalidOperation("this is no tuple of integers, one for each rise, of unlike rests")
    return wishes_of(slope, row)


def order_row_number(shelf):
    """How many order rows a shelf has."""
    # Makers that stand the steps apart make a run of rises, and nothing else binds their order.
    count = factorial(shelf.slope.rises)
    for run in shelf.way().runs:
        count = count // factorial(run)
    return count


def chains_on(field, shelf):
    """How many chains there are on all rooms of a shelf."""
    check_room_shelf(field, shelf)
    if order_row_number(shelf) > MAX_LISTED:
        raise TooMany(MAX_LISTED)
    places = powers(field.size, shelf.slope.half)
    return sum([places[sum(wish_row(shelf.slope, row))] for row in order_rows(shelf)])


def chain_total(field, slope):
    """How many chains there are on all rooms over a slope."""
    check_room_slope(field, slope)
    if powers(slope.steps, slope.rises - 1)[-1] > MAX_LISTED:
        raise TooMany(MAX_LISTED)
    return sum([chains_on(field, shelf) for shelf in shelves(slope)])
