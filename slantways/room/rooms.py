"""Rooms: spans of power series over a field that are closed under two powers."""
from slantways.count.counts import pairs
from slantways.count.tables import powers
from slantways.errors import InvalidOperation, InvalidRoom, Refused, TooMany
from slantways.room.fields import check_field, check_rows, is_rows
from slantways.room.makers import moved_maker_rows, places_of
from slantways.room.spans import (
    across_to, is_row, is_within, moved, order_of, pairing, plain_of, plain_table, power_product, unit_rows,
)
from slantways.shelf.shelves import Shelf, check_shelf, shelves
from slantways.way.ways import check_coprime, check_slope, ways

MAX_WIDTH = 24


class Room:
    """A room over a field and a slope."""

    def __init__(self, field, slope, rows):
        check_room_slope(field, slope)
        table = room_table(field, slope, rows)
        if table is None:
            raise InvalidRoom("the span of the rows is no room")
        self._field = field
        self._slope = slope
        self._table = table
        self._basis = tuple([table[order] for order in table])
        self._orders = tuple([int(order) for order in table])
        self._shelf = Shelf(slope, tuple([gap for gap in range(width_of(slope)) if gap not in table]))
        self._numbers = tuple([table[maker][gap] for maker, gap in places_of(self._shelf)])

    @classmethod
    def made_by(cls, field, slope, rows):
        """The least room that holds some rows."""
        check_room_slope(field, slope)
        check_rows(field, width_of(slope), rows)
        if width_of(slope) > 0 and not any([row[0] != 0 for row in rows]):
            raise Refused(("order",))
        return cls(field, slope, closed_rows(field, slope, rows))

    @classmethod
    def with_numbers(cls, field, shelf, numbers):
        """The room with a shelf and some numbers."""
        check_room_shelf(field, shelf)
        if not is_row(field, len(places_of(shelf)), numbers):
            raise InvalidOperation("a room has one element of the field for each free place of its shelf")
        return cls(field, shelf.slope, moved_maker_rows(field, shelf, numbers))

    @property
    def field(self):
        """The field of the room."""
        return self._field

    @property
    def slope(self):
        """The slope of the room."""
        return self._slope

    @property
    def basis(self):
        """The tuple of the plain rows of the room."""
        return self._basis

    @property
    def orders(self):
        """The ascending tuple of the orders of the rows of the room."""
        return self._orders

    @property
    def shelf(self):
        """The shelf of the room."""
        return self._shelf

    @property
    def numbers(self):
        """The tuple of the elements of the maker rows at the free places."""
        return self._numbers

    def holds(self, other):
        """Whether all rows of another room are rows of this one."""
        check_like_room(self, other)
        return all([is_within(self._field, self._table, row) for row in other._basis])

    def by_row(self, row):
        """The product of the room with a row of the order 0."""
        if not is_row(self._field, width_of(self._slope), row) or row[:1] == (0,):
            raise InvalidOperation("a room is multiplied with a row of its width that has the order 0")
        return Room(self._field, self._slope, tuple([power_product(self._field, row, one) for one in self._basis]))

    def own_maps(self):
        """The room of all rows whose products with all rows of this room are in it."""
        return Room(self._field, self._slope, rows_leading(self, self))

    def dual(self):
        """The dual room."""
        width = width_of(self._slope)
        rows = across_to(self._field, width, [row[::-1] for row in self._basis])
        least = order_of(rows[0]) if len(rows) > 0 else width
        # A series goes on in any way behind its first elements, so the last places of the quotients are free.
        behind = unit_rows(width)[width - least:]
        return Room(self._field, self._slope, tuple([moved(row, -least) for row in rows]) + behind)

    def __add__(self, other):
        if not isinstance(other, Room):
            return NotImplemented
        check_like_room(self, other)
        return Room(self._field, self._slope, self._basis + other._basis)

    def __contains__(self, x):
        return is_row(self._field, width_of(self._slope), x) and is_within(self._field, self._table, x)

    def __len__(self):
        return len(self._basis)

    def __eq__(self, other):
        return (isinstance(other, Room) and self._field == other._field and self._slope == other._slope
                and self._basis == other._basis)

    def __str__(self):
        return f"room of {self._slope} over {self._field.size}, {len(self._shelf.gaps)} gaps"


def width_of(slope):
    """The width of a coprime slope."""
    return 2 * slope.half


def check_width(slope):
    """Refuse a slope that is not coprime, and one that is too wide."""
    check_coprime(slope)
    if width_of(slope) > MAX_WIDTH:
        raise TooMany(MAX_WIDTH)


def check_room_slope(field, slope):
    """Refuse what is no field, what is no slope, and a slope over which there are no rooms."""
    check_field(field)
    check_slope(slope)
    check_width(slope)


def check_room_shelf(field, shelf):
    """Refuse what is no field, what is no shelf, and a shelf of a slope over which there are no rooms."""
    check_field(field)
    check_shelf(shelf)
    check_width(shelf.slope)


def check_room(room):
    """Refuse what is no room."""
    if not isinstance(room, Room):
        raise InvalidRoom("this is no object of Room")


def check_like_room(one, other):
    """Refuse a second room that is none, or has another field or slope than the first one."""
    check_room(other)
    if one.field != other.field or one.slope != other.slope:
        raise InvalidRoom("the second room has another field or another slope")


def room_table(field, slope, rows):
    """The dict from the orders to the plain rows of the span of some rows, or None if the span is no room."""
    width = width_of(slope)
    if not is_rows(field, width, rows):
        return None
    table = plain_table(field, rows)
    if width > 0 and 0 not in table:
        return None
    for order in table:
        for side in (slope.rises, slope.steps):
            if not is_within(field, table, moved(table[order], side)):
                return None
    return table


def is_room(field, slope, value):
    """Whether a value is a tuple of rows whose span is a room."""
    check_room_slope(field, slope)
    return room_table(field, slope, value) is not None


def closed_rows(field, slope, rows):
    """The tuple of the plain rows of the span of some rows, moved by all sums of the numbers of a slope."""
    width = width_of(slope)
    least = Shelf.of_makers(slope, (0,))
    plain = plain_of(field, rows)
    return plain_of(field, [moved(row, many) for row in plain for many in range(width) if many in least])


def rows_leading(one, other):
    """The tuple of the plain rows of all rows whose products with all rows of a room are in another one."""
    width = width_of(one.slope)
    conditions = []
    for row in across_to(one.field, width, other.basis):
        for factor_row in one.basis:
            conditions.append(tuple([pairing(one.field, row[at:], factor_row) for at in range(width)]))
    return across_to(one.field, width, conditions)


def free_places(shelf):
    """The ascending tuple of the free places of a shelf."""
    check_shelf(shelf)
    check_width(shelf.slope)
    return places_of(shelf)


def meet(one, other):
    """The plain rows of the meet of two rooms."""
    check_room(one)
    check_like_room(one, other)
    width = width_of(one.slope)
    across_both = across_to(one.field, width, one.basis) + across_to(one.field, width, other.basis)
    return across_to(one.field, width, across_both)


def factor(one, other):
    """A row of the order 0 whose product with a room is another one, or None."""
    check_room(one)
    check_like_room(one, other)
    if width_of(one.slope) == 0:
        return ()
    # A product with such a row keeps the number of rows in the basis, so it is the whole room that it lies in.
    if len(one) != len(other):
        return None
    rows = rows_leading(one, other)
    return rows[0] if rows[:1] != () and rows[0][0] == 1 else None


def rooms_on(field, shelf):
    """A generator that yields all rooms of a shelf, by their numbers, ascending."""
    check_room_shelf(field, shelf)
    many = len(places_of(shelf))
    places = powers(field.size, many)
    for index in range(places[many]):
        numbers = tuple([index // place % field.size for place in places[:many][::-1]])
        yield Room.with_numbers(field, shelf, numbers)


def rooms(field, slope):
    """A generator that yields all rooms over a slope, by their shelves and their numbers."""
    check_room_slope(field, slope)
    for shelf in shelves(slope):
        yield from rooms_on(field, shelf)


def room_number(field, slope):
    """How many rooms there are over a slope."""
    check_room_slope(field, slope)
    places = powers(field.size, slope.half)
    return sum([places[slope.half - pairs(way)] for way in ways(slope)])
