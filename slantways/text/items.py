"""The items of strings: what each one must be, so that a value can still come of it."""
from slantways.count.wishes import comes_to_places
from slantways.errors import ParseError
from slantways.room.fields import SIZES
from slantways.way.ways import Slope

DIGITS = "0123456789"
# No integer that can stand in a string comes near to so many digits.
MAX_DIGITS = 60


def number_in(item):
    """The integer of at least 0 that an item writes without zeros ahead, or None."""
    if len(item) == 0 or len(item) > MAX_DIGITS or any([letter not in DIGITS for letter in item]):
        return None
    if item[0] == "0" and len(item) > 1:
        return None
    return int(item)


def check_there(items, at):
    """Refuse a string that lacks the item with an index."""
    if at >= len(items):
        raise ParseError(len(items))


def check_end(items, at):
    """Refuse a string that has an item at an index, where all of the value is told."""
    if at < len(items):
        raise ParseError(at)


def number_at(items, at, least, most):
    """The integer within bounds that the item with an index writes."""
    check_there(items, at)
    number = number_in(items[at])
    if number is None or not least <= number <= most:
        raise ParseError(at)
    return number


def slope_at(items, at):
    """The slope whose text is the item with an index."""
    check_there(items, at)
    try:
        return Slope.of_text(items[at])
    except ParseError:
        raise ParseError(at) from None


def coprime_slope_at(items, at):
    """The coprime slope whose text is the item with an index."""
    slope = slope_at(items, at)
    if not slope.is_coprime:
        raise ParseError(at)
    return slope


def field_size_at(items, at):
    """The size of a field that the item with an index writes."""
    size = number_at(items, at, 2, 9)
    if size not in SIZES:
        raise ParseError(at)
    return size


def is_gap_behind(slope, gaps, number):
    """Whether an integer can be the gap of a shelf behind the lesser ones, given as a dict."""
    return all([number < side or number - side in gaps for side in (slope.rises, slope.steps)])


def gaps_from(items, at, slope):
    """The tuple of the gaps of a shelf that items write from an index on, up to the end or the first stroke."""
    gaps = {}
    least = 1
    place = at
    while place < len(items) and items[place] != "/":
        number = number_at(items, place, least, 2 * slope.half)
        if not is_gap_behind(slope, gaps, number):
            raise ParseError(place)
        gaps[number] = True
        least = number + 1
        place += 1
    return tuple([int(gap) for gap in gaps])


def rows_from(items, at, most):
    """The tuple of the rows of a heap, at most so many with at most so many squares, that items write from an index."""
    rows = []
    longest = most
    for place in range(at, len(items)):
        if len(rows) == most:
            raise ParseError(place)
        longest = number_at(items, place, 1, longest)
        rows.append(longest)
    return tuple(rows)


def elements_from(items, at, many, size):
    """The tuple of so many elements of a field that items write from an index on."""
    return tuple([number_at(items, place, 0, size - 1) for place in range(at, at + many)])


def wishes_from(items, at, slope):
    """The row of wishes of a slope that items write from an index on."""
    wishes = ()
    for place in range(at, at + slope.rises):
        wishes = wishes + (number_at(items, place, 0, slope.steps),)
        if not comes_to_places(slope, wishes):
            raise ParseError(place)
    return wishes


def least_points_from(items, at, size):
    """The list of the least points of the blocks of all points that items write from an index on."""
    told = []
    for point in range(1, size + 1):
        place = at + point - 1
        least = number_at(items, place, 1, point)
        if least < point and (told[least - 1] != least or any([other < least for other in told[least:]])):
            raise ParseError(place)
        told.append(least)
    return told
