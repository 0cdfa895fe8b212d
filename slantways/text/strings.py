"""Strings of values: slopes, ways, shelves, heaps, rooms, shuffles and partings."""
from slantways.count.counts import free_numbers
from slantways.errors import InvalidOperation, ParseError
from slantways.heap.heaps import MAX_ROW, Heap
from slantways.parting.partings import MAX_POINTS, Parting
from slantways.room.fields import Field
from slantways.room.rooms import Room
from slantways.rows import spaced
from slantways.shelf.shelves import Shelf
from slantways.shuffle.shuffles import Shuffle, shuffle_of
from slantways.text.items import (
    check_end, check_there, coprime_slope_at, elements_from, field_size_at, gaps_from, least_points_from, number_at,
    rows_from, slope_at, wishes_from,
)
from slantways.way.ways import Slope, Way, is_way


def followed_by(start, numbers):
    """A string that goes on with integers, each one behind a blank."""
    return start if len(numbers) == 0 else f"{start} {spaced(numbers)}"


def write_room(room):
    """The string of a room."""
    start = followed_by(f"room {room.field.size} {room.slope}", room.shelf.gaps)
    return followed_by(f"{start} /", room.numbers)


def write_parting(parting):
    """The string of a parting."""
    least = [parting.block_of(point)[0] for point in range(1, parting.size + 1)]
    return followed_by(f"parting {parting.size}", least)


def write_value(value):
    """The string of a value."""
    if isinstance(value, Slope):
        return f"slope {value}"
    if isinstance(value, Way):
        return f"way {value.slope} {value.text}"
    if isinstance(value, Shelf):
        return followed_by(f"shelf {value.slope}", value.gaps)
    if isinstance(value, Heap):
        return followed_by("heap", value.rows)
    if isinstance(value, Room):
        return write_room(value)
    if isinstance(value, Shuffle):
        return followed_by(f"shuffle {value.slope}", value.wishes)
    if isinstance(value, Parting):
        return write_parting(value)
    raise InvalidOperation("only slopes, ways, shelves, heaps, rooms, shuffles and partings have strings")


def read_slope(items):
    """The slope that some items tell."""
    slope = slope_at(items, 1)
    check_end(items, 2)
    return slope


def read_way(items):
    """The way that some items tell."""
    slope = slope_at(items, 1)
    check_there(items, 2)
    if not is_way(slope, items[2]):
        raise ParseError(2)
    check_end(items, 3)
    return Way(slope, items[2])


def read_shelf(items):
    """The shelf that some items tell."""
    slope = coprime_slope_at(items, 1)
    gaps = gaps_from(items, 2, slope)
    check_end(items, 2 + len(gaps))
    return Shelf(slope, gaps)


def read_heap(items):
    """The heap that some items tell."""
    return Heap(rows_from(items, 1, MAX_ROW))


def read_room(items):
    """The room that some items tell."""
    size = field_size_at(items, 1)
    slope = coprime_slope_at(items, 2)
    gaps = gaps_from(items, 3, slope)
    stroke = 3 + len(gaps)
    check_there(items, stroke)
    shelf = Shelf(slope, gaps)
    many = sum(free_numbers(shelf))
    numbers = elements_from(items, stroke + 1, many, size)
    check_end(items, stroke + 1 + many)
    return Room.with_numbers(Field(size), shelf, numbers)


def read_shuffle(items):
    """The shuffle that some items tell."""
    slope = coprime_slope_at(items, 1)
    wishes = wishes_from(items, 2, slope)
    check_end(items, 2 + slope.rises)
    return shuffle_of(slope, wishes)


def read_parting(items):
    """The parting that some items tell."""
    size = number_at(items, 1, 1, MAX_POINTS)
    told = least_points_from(items, 2, size)
    check_end(items, 2 + size)
    blocks = {}
    for point, least in enumerate(told, start=1):
        blocks.setdefault(least, []).append(point)
    return Parting(size, tuple([tuple(blocks[least]) for least in blocks]))


READERS = {
    "slope": read_slope, "way": read_way, "shelf": read_shelf, "heap": read_heap, "room": read_room,
    "shuffle": read_shuffle, "parting": read_parting,
}


def read_value(string):
    """The value with a string."""
    if not isinstance(string, str):
        raise ParseError(None)
    items = string.split(" ")
    if items[0] not in READERS:
        raise ParseError(0)
    reader = READERS[items[0]]
    return reader(items)
