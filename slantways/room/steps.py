"""What adding the steps does to the series of a room, up to those that the rises lead to."""
from slantways.room.rooms import Room, width_of
from slantways.room.spans import combined, moved, order_of, plain_of, unit_row, unit_rows, without_multiple


def lower_rows(room, length):
    """The list of the lower rows of the rise makers of a room, of a length beyond the width and the rises."""
    width = width_of(room.slope)
    basis = {order: row for order, row in zip(room.orders, room.basis)}
    return [basis[maker] + (0,) * (length - width) if maker < width else unit_row(length, maker)
            for maker in room.shelf.rise_makers]


def coordinates(room, row):
    """The coordinates of a series of a room, told by a row as long as the width and the rises, or longer."""
    rises = room.slope.rises
    makers = room.shelf.rise_makers
    lower = lower_rows(room, len(row))
    by_rest = {maker % rises: at for at, maker in enumerate(makers)}
    found = [0] * rises
    left = row
    for order in range(width_of(room.slope) + rises):
        at = by_rest[order % rises]
        factor = left[order]
        if order == makers[at]:
            found[at] = factor
        if factor != 0:
            left = without_multiple(room.field, left, factor, moved(lower[at], order - makers[at]))
    return tuple(found)


def table_of(room):
    """The step table of a room."""
    slope = room.slope
    lower = lower_rows(room, width_of(slope) + slope.rises)
    return tuple([coordinates(room, moved(row, slope.steps)) for row in lower])


def led(field, table, rows):
    """The list of the coordinates to which a step table leads some rows of coordinates."""
    return [combined(field, row, table, len(table)) for row in rows]


def sizes_of(field, table):
    """The tuple of the step sizes of a room with a step table."""
    rows = unit_rows(len(table))
    lost = []
    while len(rows) > 0:
        next_rows = plain_of(field, led(field, table, rows))
        lost.append(len(rows) - len(next_rows))
        rows = next_rows
    return tuple([len([many for many in lost if many > at]) for at in range(lost[0])])


def steady_planes(field, table, rows):
    """The list of all steady spans in a steady span that have one plain row less, ascending."""
    below = plain_of(field, led(field, table, rows))
    orders = [order_of(row) for row in below]
    # A steady span with one row less holds all that the span is led to, so it is told by a span of these rows.
    free = [row for row in rows if order_of(row) not in orders]
    found = {}
    many = 1
    for at, lost in enumerate(free):
        for index in range(many):
            left = list(below) + free[at + 1:]
            rest = index
            for row in free[:at]:
                left.append(without_multiple(field, row, rest % field.size, lost))
                rest = rest // field.size
            plane = plain_of(field, left)
            # All elements have one digit, so the texts have the order of the rows.
            found["".join([str(element) for row in plane for element in row])] = plane
        many = many * field.size
    return [found[text] for text in sorted([str(text) for text in found])]


def series_of(room, space):
    """The list of series whose multiples with powers of the rises make the set with a space of coordinates."""
    rises = room.slope.rises
    length = width_of(room.slope) + 2 * rises
    lower = lower_rows(room, length)
    return [combined(room.field, row, lower, length) for row in space] + [moved(row, rises) for row in lower]


def least_order(series):
    """The least order of some series."""
    return min([int(order_of(row)) for row in series])


def room_beside(room, space):
    """The room that is the set with a space of coordinates, divided by the power of its least order."""
    series = series_of(room, space)
    least = least_order(series)
    rows = [moved(row, -least)[:width_of(room.slope)] for row in series]
    return Room.made_by(room.field, room.slope, plain_of(room.field, rows))


def space_beside(room, least, other, space):
    """The plain coordinates in another room of the set with a space in a room, divided by the power of an order."""
    rows = [coordinates(other, moved(row, -least)) for row in series_of(room, space)]
    return plain_of(room.field, rows)
