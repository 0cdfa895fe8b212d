"""Promises [4.1] to [4.4], and the class Heap."""
import unittest
from itertools import combinations
from math import gcd

from slantways.errors import InvalidHeap, InvalidNumber, TooMany
from slantways.heap.heaps import MAX_ROW, Heap
from tests.helper import Case, wrong_for, wrong_numbers, wrong_values

LONG = 10 ** 60


def boxed(rows, most):
    """All tuples of rows with at most so many rows and at most so many squares in each."""
    found = [()]
    for row in found:
        if len(row) < rows:
            found.extend(row + (squares,) for squares in range(1, min(row, default=most) + 1))
    return found


ROWS = boxed(4, 5) + [(6,), (1,) * 7, (6, 6, 6, 1, 1, 1), (7, 5, 3, 1), (3, 3, 2, 2, 1, 1)]


def squares_of(rows):
    """All squares of a heap."""
    return {(i, j) for i, row in enumerate(rows) for j in range(row)}


def hook_of(squares, i, j):
    """How many squares stand behind a square, and below it, and the square itself."""
    return sum(1 for x, y in squares if (x == i and y >= j) or (y == j and x > i))


def rim_of(squares, i, j):
    """The rim of a square, as a set."""
    return {(x, y) for x, y in squares if x >= i and y >= j and (x + 1, y + 1) not in squares}


def rows_from(squares):
    """The rows of a heap with some squares."""
    rows = [sum(1 for x, _ in squares if x == at) for at in range(60)]
    return tuple(row for row in rows if row)


def left_by(rows, length):
    """All rows that are left if one rim of a length is taken off, ordered like heaps."""
    squares = squares_of(rows)
    left = [rows_from(squares - rim_of(squares, i, j)) for i, j in squares if hook_of(squares, i, j) == length]
    return sorted(left, key=lambda one: (sum(one), one))


class ExamplesTest(Case):
    def test_heap(self):
        heap = Heap((3, 1))
        shown = [heap.rim(0, 1), str(heap.off(0, 1)), [str(one) for one in heap.rims(1)], str(heap.end_of(2)),
                 heap.end_of(3) == heap, heap.is_without(3)]
        self.assertEqual(shown, [((0, 1), (0, 2)), "1 1", ["2 1", "3"], "", True, True])

    def test_first_hooks(self):
        shown = [Heap.of_first_hooks((2, 3, 7)).rows, Heap((5, 2, 2)).first_hooks, Heap((2,)).holds(Heap((1, 1)))]
        self.assertEqual(shown, [(5, 2, 2), (2, 3, 7), False])

    def test_wrong_column(self):
        self.raised_number(InvalidNumber, 1, Heap((3, 1)).rim, 1, 1)


class RowsTest(Case):
    def test_all(self):
        for rows in ROWS:
            heap = Heap(rows)
            squares = squares_of(rows)
            self.same(heap.rows, rows)
            self.same(heap.size, len(squares))
            self.assertEqual((len(heap), list(heap), tuple(iter(heap))), (len(rows), list(rows), rows))
            self.same(str(heap), " ".join(str(row) for row in rows))
            self.assertEqual(squares_of(heap.turned().rows), {(j, i) for i, j in squares})
            self.assertEqual(heap.turned().turned(), heap)

    def test_text(self):
        shown = [str(Heap()), str(Heap((7,))), str(Heap((60,))), str(Heap((4, 2, 1))), f"{Heap((2, 2))}"]
        self.assertEqual(shown, ["", "7", "60", "4 2 1", "2 2"])
        for heap in (Heap(), Heap((7,)), Heap((4, 2, 1))):
            self.assertIs(str(heap).__class__, str)

    def test_bounds(self):
        self.same(MAX_ROW, 60)
        for rows in ((60,) * 60, (60,), (1,) * 60, tuple(range(60, 0, -1))):
            heap = Heap(rows)
            self.assertEqual((heap.rows, heap.size, heap.turned().turned()), (rows, sum(rows), heap))
        for rows in ((61,), (1,) * 61, (60,) * 61, (61, 60), (LONG,)):
            self.raised(InvalidHeap, Heap, rows)

    def test_empty(self):
        for heap in (Heap(), Heap(()), Heap.of_first_hooks(())):
            shown = (heap.rows, heap.size, heap.first_hooks, heap.hooks(), heap.turned().rows, str(heap), list(heap))
            self.assertEqual(shown, ((), 0, (), (), (), "", []))
            self.assertEqual((heap.rims(1), heap.end_of(1), heap.is_without(1), len(heap)), ((), heap, True, 0))
            self.assertTrue(heap.holds(heap))
            self.raised_number(InvalidNumber, 0, heap.rim, 0, 0)
            self.raised_number(InvalidNumber, 0, heap.off, 0, 0)

    def test_wrong_rows(self):
        wrong = [(1, 2), (0,), (2, 0), (-1,), (True,), (2, True), ("2",), [2, 1], [], {}, {2: 1}, 2, "2 1", None,
                 (2, (1,)), (None,), (2, None), (3, 1, 2), Heap((2, 1)), (Heap(),), (10 ** 99, 1)]
        for value in wrong + wrong_values():
            if value not in ((), (1,)) or value.__class__ is not tuple:
                self.raised(InvalidHeap, Heap, value)

    def test_never_changes(self):
        heap = Heap((3, 1))
        for name in ("rows", "size", "first_hooks"):
            self.raised(AttributeError, setattr, heap, name, ())
        heap.off(0, 0), heap.rims(1), heap.end_of(2), heap.turned()
        self.assertEqual(heap, Heap((3, 1)))


class OrderTest(Case):
    def test_all(self):
        for one in ROWS:
            for other in ROWS:
                left, right = Heap(one), Heap(other)
                less = (sum(one), one) < (sum(other), other)
                self.assertIs(left < right, less)
                self.assertIs(right > left, less)
                self.assertIs(left == right, one == other)
                self.assertIs(left != right, one != other)
                self.assertIs(left.holds(right), squares_of(one) >= squares_of(other))

    def test_other_kinds(self):
        heap = Heap((2, 1))
        for value in wrong_for(Heap) + [(2, 1)]:
            self.raised(TypeError, lambda other: heap < other, value)
            self.raised(TypeError, lambda other: other < heap, value)
            self.raised(TypeError, lambda other: heap + other, value)
            self.raised(InvalidHeap, heap.holds, value)
            self.assertIs(heap == value, False)
            self.assertIs(value != heap, True)


class HooksTest(Case):
    def test_all(self):
        for rows in ROWS:
            squares = squares_of(rows)
            hooks = tuple(tuple(hook_of(squares, i, j) for j in range(row)) for i, row in enumerate(rows))
            heap = Heap(rows)
            self.same(heap.hooks(), hooks)
            first = [row[0] for row in hooks]
            self.same(heap.first_hooks, tuple(sorted(first)))
            self.assertEqual(len(set(first)), len(rows))
            self.assertEqual(Heap.of_first_hooks(heap.first_hooks), heap)
            for length in range(1, 13):
                self.assertIs(heap.is_without(length), all(length not in row for row in hooks))

    def test_of_first_hooks(self):
        found = set()
        for many in range(7):
            for hooks in combinations(range(1, 10), many):
                heap = Heap.of_first_hooks(hooks)
                self.assertEqual(heap.first_hooks, hooks)
                self.assertEqual(heap.rows[::-1], tuple(hook - below for below, hook in enumerate(hooks)))
                found.add(heap.rows)
        self.assertEqual(len(found), sum(1 for many in range(7) for _ in combinations(range(9), many)))

    def test_bounds_of_first_hooks(self):
        self.assertEqual(Heap.of_first_hooks((60,)).rows, (60,))
        self.assertEqual(Heap.of_first_hooks((1, 61)).rows, (60, 1))
        self.assertEqual(Heap.of_first_hooks(tuple(range(1, 61))).rows, (1,) * 60)
        self.assertEqual(Heap.of_first_hooks(tuple(range(60, 120))).rows, (60,) * 60)
        for hooks in ((61,), (1, 62), tuple(range(1, 62)), tuple(range(61, 121)), (LONG - 1,), tuple(range(1, 3000))):
            self.raised_number(TooMany, 60, Heap.of_first_hooks, hooks)

    def test_wrong_first_hooks(self):
        wrong = [(2, 1), (1, 1), (0,), (0, 1), (-1, 2), (True,), (True, 2), (1, "2"), [1, 2], [], {1: 2}, 1, "1", None,
                 (1, (2,)), (LONG,), (61, LONG), (61, 60), (100, 0), Heap((1,))]
        for value in wrong + wrong_values():
            if value not in ((), (1,), (3, 4)) or value.__class__ is not tuple:
                self.raised(InvalidHeap, Heap.of_first_hooks, value)


class RimsTest(Case):
    def test_all_squares(self):
        for rows in ROWS:
            heap = Heap(rows)
            squares = squares_of(rows)
            for i, j in squares:
                rim = rim_of(squares, i, j)
                self.same(heap.rim(i, j), tuple(sorted(rim)))
                self.assertEqual(len(rim), hook_of(squares, i, j))
                self.assertEqual(squares_of(heap.off(i, j).rows), squares - rim)

    def test_greatest(self):
        heap = Heap((60,) * 60)
        rim = tuple((row, 59) for row in range(59)) + tuple((59, column) for column in range(60))
        self.assertEqual(heap.rim(0, 0), rim)
        self.assertEqual(heap.off(0, 0), Heap((59,) * 59))
        self.assertEqual(heap.rim(59, 59), ((59, 59),))
        self.assertEqual(heap.off(59, 59), Heap((60,) * 59 + (59,)))
        self.assertEqual(heap.hooks()[0], tuple(range(119, 59, -1)))
        self.assertEqual([heap.end_of(1), heap.end_of(7)], [Heap(), Heap((3, 3, 3)).end_of(7)])
        self.assertEqual(len(heap.rims(60)), 60)

    def test_wrong_squares(self):
        heap = Heap((3, 1))
        for call in (heap.rim, heap.off):
            for value in wrong_numbers() + [-1, 2, 61, LONG]:
                self.assertIs(self.raised(InvalidNumber, call, value, 0).value, value)
                self.assertIs(self.raised(InvalidNumber, call, value, "x").value, value)
                if value != 2:
                    self.assertIs(self.raised(InvalidNumber, call, 0, value).value, value)
            for row, column in ((0, 3), (1, 1), (1, 2), (0, -1), (1, True)):
                self.raised_number(InvalidNumber, column, call, row, column)
            self.raised_number(InvalidNumber, 2, call, 2, 7)

    def test_rims(self):
        for rows in ROWS:
            heap = Heap(rows)
            for length in range(1, 12):
                left = heap.rims(length)
                self.assertIsInstance(left, tuple)
                self.assertEqual([one.rows for one in left], left_by(rows, length))
                self.assertEqual(len(left), sum(row.count(length) for row in heap.hooks()))

    def test_rims_in_first_hooks(self):
        for rows in ROWS:
            hooks = Heap(rows).first_hooks
            for length in range(1, 12):
                found = []
                for hook in hooks:
                    if hook >= length and hook - length not in hooks:
                        less = sorted(set(hooks) - {hook} | {hook - length})
                        while less and less[0] == 0:
                            less = [one - 1 for one in less[1:]]
                        found.append(tuple(less))
                self.assertEqual(sorted(found), sorted(one.first_hooks for one in Heap(rows).rims(length)))

    def test_end(self):
        for rows in ROWS:
            heap = Heap(rows)
            for length in range(1, 12):
                end = heap.end_of(length)
                left = left_by(rows, length)
                if not left:
                    self.assertEqual(end, heap)
                # Each rim that is taken off first leads to the same end, and so does each next one.
                for one in left:
                    self.assertEqual(Heap(one).end_of(length), end)
                hooks = [hook for row in heap.hooks() for hook in row]
                many = sum(1 for hook in hooks if hook % length == 0)
                self.assertEqual(heap.size - end.size, many * length)
                self.assertFalse(any(hook % length == 0 for row in end.hooks() for hook in row))
                self.assertEqual(heap.is_without(length), end == heap)

    def test_end_keeps_missing_hooks(self):
        for one in range(1, 7):
            for other in range(1, 7):
                if gcd(one, other) == 1:
                    for rows in ROWS:
                        end = Heap(rows).end_of(one).end_of(other)
                        self.assertTrue(end.is_without(one) and end.is_without(other))

    def test_wrong_lengths(self):
        heap = Heap((3, 1))
        for value in wrong_numbers() + [0, -1, LONG]:
            for call in (heap.is_without, heap.rims, heap.end_of):
                self.assertIs(self.raised(InvalidNumber, call, value).value, value)
        self.assertEqual([heap.is_without(LONG - 1), heap.rims(LONG - 1), heap.end_of(LONG - 1)], [True, (), heap])


class FalseStatementsTest(Case):
    def test_hook_of_the_product(self):
        heap = Heap((1, 1))
        self.assertTrue(heap.is_without(6))
        self.assertFalse(heap.is_without(2))

    def test_order_of_lengths(self):
        heap = Heap((1, 1, 1))
        self.assertEqual([str(heap.end_of(2).end_of(3)), str(heap.end_of(3).end_of(2))], ["1", ""])


if __name__ == "__main__":
    unittest.main()
