"""Heaps of squares, and those without hooks of the numbers of a coprime slope."""
from math import gcd

from slantways.checks import GREATEST, is_ascending, is_whole_between
from slantways.errors import InvalidHeap, InvalidNumber, Refused, TooMany
from slantways.rows import ascending
from slantways.shelf.shelves import Shelf, check_shelf, shelves
from slantways.way.ways import check_coprime, check_slope, highest, way_count

MAX_ROW = 60
MAX_HEAPS = 5000


class Heap:
    """A heap of squares, told by the numbers of squares of its rows."""

    def __init__(self, rows=()):
        if not is_heap_rows(rows):
            raise InvalidHeap("these are not the rows of a heap")
        self._rows = rows
        self._size = sum(rows)
        self._first_hooks = tuple([row + below for below, row in enumerate(rows[::-1])])
        self._key = (self._size, rows)

    @classmethod
    def of_first_hooks(cls, hooks):
        """The heap with some first hooks."""
        if not is_ascending(hooks, 1, GREATEST):
            raise InvalidHeap("first hooks are an ascending tuple of integers of at least 1")
        rows = rows_of_hooks(hooks)
        if len(rows) > MAX_ROW or any([row > MAX_ROW for row in rows]):
            raise TooMany(MAX_ROW)
        return cls(rows)

    @property
    def rows(self):
        """The tuple of the numbers of squares of the rows, from the top down."""
        return self._rows

    @property
    def size(self):
        """The number of squares."""
        return self._size

    @property
    def first_hooks(self):
        """The ascending tuple of the hooks in the first column."""
        return self._first_hooks

    def turned(self):
        """The heap with the columns of this one as its rows."""
        width = self._rows[0] if len(self._rows) > 0 else 0
        return Heap(tuple([len([row for row in self._rows if row > column]) for column in range(width)]))

    def hooks(self):
        """The tuple that has for each row the tuple of the hooks of its squares."""
        columns = self.turned().rows
        hooks = []
        for at, row in enumerate(self._rows):
            # The square itself is counted with those behind it, so only those below it are added.
            hooks.append(tuple([row - column + columns[column] - at - 1 for column in range(row)]))
        return tuple(hooks)

    def holds(self, other):
        """Whether all squares of another heap are squares of this one."""
        check_heap(other)
        if len(other._rows) > len(self._rows):
            return False
        return all([row >= other_row for row, other_row in zip(self._rows, other._rows)])

    def rim(self, row, column):
        """The rim of a square, as the ascending tuple of pairs."""
        check_square(self, row, column)
        left = rows_without_rim(self._rows, row, column)
        return tuple([(at, place) for at, start in enumerate(left) for place in range(start, self._rows[at])])

    def off(self, row, column):
        """The heap that is left if the rim of a square is taken off."""
        check_square(self, row, column)
        return Heap(tuple([start for start in rows_without_rim(self._rows, row, column) if start > 0]))

    def is_without(self, length):
        """Whether no square has a hook of a length."""
        check_length(length)
        return not any([length in hooks for hooks in self.hooks()])

    def rims(self, length):
        """The ascending tuple of all heaps that are left if one rim of a length is taken off."""
        check_length(length)
        left = []
        for row, hooks in enumerate(self.hooks()):
            left.extend([self.off(row, column).rows for column, hook in enumerate(hooks) if hook == length])
        return tuple([Heap(rows) for rows in ascending(left)])

    def end_of(self, length):
        """The heap that is left if rims of a length are taken off as long as there is one."""
        check_length(length)
        many = {}
        for hook in self._first_hooks:
            many[hook % length] = many.get(hook % length, 0) + 1
        # The hooks of one rest have gone down as far as they can when they stand one length apart, from the rest on.
        hooks = [rest + length * turn for rest in many for turn in range(many[rest])]
        return Heap(rows_of_hooks(sorted([int(hook) for hook in hooks])))

    def __len__(self):
        return len(self._rows)

    def __iter__(self):
        return iter(self._rows)

    def __lt__(self, other):
        if not isinstance(other, Heap):
            return NotImplemented
        return self._key < other._key

    def __eq__(self, other):
        if not isinstance(other, Heap):
            return NotImplemented
        return self._key == other._key

    def __str__(self):
        return " ".join([str(row) for row in self._rows])


def check_heap(heap):
    """Refuse what is no heap."""
    if not isinstance(heap, Heap):
        raise InvalidHeap("this is no object of Heap")


def check_square(heap, row, column):
    """Refuse what is no index of a row, and what is no index of a square in this row."""
    if not is_whole_between(row, 0, len(heap) - 1):
        raise InvalidNumber(row)
    if not is_whole_between(column, 0, heap.rows[row] - 1):
        raise InvalidNumber(column)


def check_length(length):
    """Refuse what is no length of a rim."""
    if not is_whole_between(length, 1, GREATEST):
        raise InvalidNumber(length)


def is_heap_rows(value):
    """Whether a value is the tuple of the numbers of squares of the rows of a heap."""
    if not isinstance(value, tuple) or len(value) > MAX_ROW:
        return False
    most = MAX_ROW
    for row in value:
        if not is_whole_between(row, 1, most):
            return False
        most = row
    return True


def rows_of_hooks(hooks):
    """The rows from the top down that are told by first hooks in ascending order, perhaps with a 0 at first."""
    rows = [hook - below for below, hook in enumerate(hooks)]
    return tuple([row for row in rows[::-1] if row > 0])


def rows_without_rim(rows, row, column):
    """The list of the numbers of squares that each row has left, perhaps 0, without the rim of a square."""
    left = []
    for at, squares in enumerate(rows):
        if at < row or squares <= column:
            left.append(squares)
        else:
            following = rows[at + 1] if at + 1 < len(rows) else 0
            left.append(following - 1 if following > column else column)
    return left


def heap_of(shelf):
    """The heap whose first hooks are the gaps of a shelf."""
    check_shelf(shelf)
    return Heap.of_first_hooks(shelf.gaps)


def shelf_of(slope, heap):
    """The shelf of a heap without hooks of the rises and of the steps of a coprime slope."""
    check_slope(slope)
    check_heap(heap)
    check_coprime(slope)
    for row, hooks in enumerate(heap.hooks()):
        for column, hook in enumerate(hooks):
            if hook in (slope.rises, slope.steps):
                raise Refused(("hook", row, column))
    return Shelf(slope, heap.first_hooks)


def check_bounds(slope):
    """Refuse what is no coprime slope, and a slope whose greatest heap is beyond the bounds of a heap."""
    check_slope(slope)
    check_coprime(slope)
    if slope.half > MAX_ROW:
        raise TooMany(MAX_ROW)


def heaps(slope):
    """A generator that yields all heaps without hooks of the rises and of the steps of a coprime slope, ascending."""
    check_bounds(slope)
    if way_count(slope) > MAX_HEAPS:
        raise TooMany(MAX_HEAPS)
    found = [heap_of(shelf) for shelf in shelves(slope)]
    for row in ascending([(heap.size,) + heap.rows for heap in found]):
        yield Heap(row[1:])


def greatest(slope):
    """The greatest heap without hooks of the rises and of the steps of a coprime slope."""
    check_bounds(slope)
    return heap_of(Shelf.of_way(highest(slope)))


def mean(slope):
    """The mean of the numbers of squares of these heaps, as a pair without a common part."""
    check_slope(slope)
    check_coprime(slope)
    top = (slope.rises + slope.steps + 1) * (slope.rises - 1) * (slope.steps - 1)
    common = gcd(top, 24)
    return top // common, 24 // common
