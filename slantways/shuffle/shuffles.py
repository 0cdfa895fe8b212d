"""Steady shuffles of the integers, and the rows of wishes that tell them."""
from slantways.checks import is_integer, is_number
from slantways.count.counts import room_rows
from slantways.count.tables import powers
from slantways.count.wishes import comes_to_places, wishes_of
from slantways.errors import InvalidNumber, InvalidOperation, InvalidShuffle, TooMany
from slantways.rows import ascending, spaced
from slantways.shelf.shelves import way_with_rises
from slantways.shuffle.names import is_names, namings, rises_by_wishes, window_of
from slantways.way.ways import Way, check_coprime, check_slope, check_way, ways

MAX_SHUFFLES = 5000
# All members of steady windows are within these bounds, so that they can be sorted as integers of at least 0.
FAR = 5000


class Shuffle:
    """A steady window of a slope."""

    def __init__(self, slope, window):
        check_slope(slope)
        if not is_steady_window(slope, window) or not all([is_integer(member) for member in window]):
            raise InvalidShuffle("this is no steady window of the slope")
        check_coprime(slope)
        undone = [place_of(window, number) for number in range(1, slope.rises + 1)]
        least = min([int(place) for place in undone])
        levels = {place - least: name for name, place in enumerate(undone, start=1)}
        way = way_with_rises(slope, levels)
        self._slope = slope
        self._window = window
        self._named_way = way
        self._names = tuple([levels[level] for letter, level in zip(way.text, way.levels) if letter == "r"])
        self._wishes = wishes_of(slope, undone)
        self._room = sum(room_rows(way))
        self._pairs = slope.half - sum(self._wishes)

    @classmethod
    def of_names(cls, way, names):
        """The shuffle with a way and names of its rises."""
        check_way(way)
        if not is_names(way, names):
            raise InvalidShuffle("these are no names of the rises that ascend in each run")
        check_coprime(way.slope)
        return cls(way.slope, window_of(way, names))

    @property
    def slope(self):
        """The slope of the shuffle."""
        return self._slope

    @property
    def window(self):
        """The tuple of the integers to which 1, 2, and so on, up to the rises lead."""
        return self._window

    @property
    def named_way(self):
        """The way of the shuffle."""
        return self._named_way

    @property
    def names(self):
        """The tuple of the names of the rises of the way."""
        return self._names

    @property
    def wishes(self):
        """The tuple of the wishes at 1, 2, and so on, up to the rises."""
        return self._wishes

    @property
    def room(self):
        """The room of the way of the shuffle."""
        return self._room

    @property
    def pairs(self):
        """The half of the slope less the sum of the wishes."""
        return self._pairs

    def undone(self, number):
        """The integer that leads to a number."""
        if not is_integer(number):
            raise InvalidNumber(number)
        return place_of(self._window, number)

    def __call__(self, number):
        """The integer to which a number leads."""
        if not is_integer(number):
            raise InvalidNumber(number)
        return member_at(self._window, number)

    def __len__(self):
        return len(self._window)

    def __iter__(self):
        return iter(self._window)

    def __eq__(self, other):
        return isinstance(other, Shuffle) and self._slope == other._slope and self._window == other._window

    def __str__(self):
        return f"shuffle {spaced(self._window)} of {self._slope}"


def member_at(window, place):
    """The integer to which a place leads, in a window that is continued on both sides."""
    at = (place - 1) % len(window)
    return window[at] + place - 1 - at


def place_of(window, number):
    """The place that leads to an integer, in a window that is continued on both sides."""
    rises = len(window)
    at = [member % rises for member in window].index(number % rises)
    return at + 1 + number - window[at]


def is_steady_window(slope, value):
    """Whether a value is a steady window of a slope that need not be coprime."""
    rises = slope.rises
    if not isinstance(value, tuple) or len(value) != rises or not all([is_number(member) for member in value]):
        return False
    if len({member % rises: True for member in value}) < rises or sum(value) != rises * (rises + 1) // 2:
        return False
    return all([member_at(value, place + slope.steps) > member_at(value, place) for place in range(1, rises + 1)])


def is_wish_row(slope, value):
    """Whether a value is a row of wishes of a slope that need not be coprime."""
    if not isinstance(value, tuple) or len(value) != slope.rises:
        return False
    return all([is_number(number) and number >= 0 for number in value]) and comes_to_places(slope, value)


def check_wishes(slope, wishes):
    """Refuse what is no slope, what is no row of wishes of the slope, and a slope that is not coprime."""
    check_slope(slope)
    if not is_wish_row(slope, wishes):
        raise InvalidOperation("this is no row of wishes of the slope")
    check_coprime(slope)


def check_listed(slope):
    """Refuse what is no coprime slope, and a slope with too many steady windows to go through."""
    if shuffle_count(slope) > MAX_SHUFFLES:
        raise TooMany(MAX_SHUFFLES)


def is_steady(slope, value):
    """Whether a value is a steady window of a slope."""
    check_slope(slope)
    check_coprime(slope)
    return is_steady_window(slope, value)


def shuffle_count(slope):
    """How many steady windows a slope has."""
    check_slope(slope)
    check_coprime(slope)
    return powers(slope.steps, slope.rises - 1)[-1]


def shuffles(slope):
    """A generator that yields all shuffles of a slope, by their windows, ascending."""
    check_listed(slope)
    rows = []
    for way in ways(slope):
        for names in namings(way.runs):
            rows.append(tuple([member + FAR for member in window_of(way, names)]))
    for row in ascending(rows):
        yield Shuffle(slope, tuple([member - FAR for member in row]))


def is_wishes(slope, value):
    """Whether a value is a row of wishes of a slope."""
    check_slope(slope)
    check_coprime(slope)
    return is_wish_row(slope, value)


def way_of_wishes(slope, wishes):
    """The way that has as many rises behind so many steps as wishes are so many."""
    check_wishes(slope, wishes)
    return Way(slope, "".join(["r" * wishes.count(steps) + "s" for steps in range(slope.steps)]))


def wishes_behind(slope, row):
    """A generator that yields all rows of wishes of a slope that begin with a row, ascending."""
    if len(row) == slope.rises:
        yield row
    else:
        longer = row + (0,)
        while comes_to_places(slope, longer):
            yield from wishes_behind(slope, longer)
            longer = row + (longer[-1] + 1,)


def wish_rows(slope):
    """A generator that yields all rows of wishes of a slope, ascending."""
    check_listed(slope)
    yield from wishes_behind(slope, ())


def shuffle_of(slope, wishes):
    """The shuffle with a row of wishes."""
    check_wishes(slope, wishes)
    check_listed(slope)
    found = []
    for way in ways(slope):
        found.extend([Shuffle.of_names(way, names) for names in rises_by_wishes(way, wishes)])
    return found[0]


def named_table(slope):
    """The dict from the rooms and pairs of steady windows of a slope to their numbers."""
    many = {}
    for shuffle in shuffles(slope):
        counts = (shuffle.room, shuffle.pairs)
        many[counts] = many.get(counts, 0) + 1
    return {counts: many[counts] for counts in ascending(many)}
