"""Promises [4.5] to [4.7]: the heaps without hooks of the numbers of a slope, and their shelves."""
import unittest
from fractions import Fraction
from unittest.mock import patch

from slantways.errors import InvalidHeap, InvalidShelf, InvalidSlope, Refused, TooMany
from slantways.heap import heaps as module
from slantways.heap.heaps import MAX_HEAPS, Heap, greatest, heap_of, heaps, mean, shelf_of
from slantways.shelf.shelves import Shelf, shelves
from slantways.way.ways import Slope, highest, lowest, way_count
from tests.helper import Case, coprime_sides, wrong_for
from tests.test_heaps import boxed

ODD = Slope(3, 5)
COMMON = ((4, 6, 2), (2, 2, 2), (60, 60, 60), (45, 60, 15))


def without_hooks(rises, steps):
    """The rows of all heaps without hooks of both numbers, found in a box that is larger than the half."""
    most = (rises - 1) * (steps - 1) // 2 + 1
    found = []
    for rows in boxed(most, most):
        columns = [sum(1 for row in rows if row > column) for column in range(most)]
        hooks = {row - j + columns[j] - i - 1 for i, row in enumerate(rows) for j in range(row)}
        if hooks.isdisjoint((rises, steps)):
            found.append(rows)
    return sorted(found, key=lambda rows: (sum(rows), rows))


class ExamplesTest(Case):
    def test_listed(self):
        self.assertEqual([str(heap) for heap in heaps(ODD)], ["", "1", "1 1", "2", "2 1 1", "3 1", "4 2 1 1"])

    def test_greatest(self):
        top = greatest(ODD)
        shown = [top.size, top.first_hooks, top.hooks(), top.turned() == top, mean(ODD), mean(Slope(2, 3))]
        self.assertEqual(shown, [8, (1, 2, 4, 7), ((7, 4, 2, 1), (4, 1), (2,), (1,)), True, (3, 1), (1, 2)])

    def test_both_ways(self):
        heap = Heap((3, 1))
        self.assertEqual(heap_of(shelf_of(ODD, heap)), heap)
        self.raised_number(Refused, ("hook", 0, 0), shelf_of, ODD, Heap((2, 2)))


class ListsTest(Case):
    def test_all(self):
        for rises, steps in coprime_sides(10):
            slope = Slope(rises, steps)
            listed = list(heaps(slope))
            self.assertEqual([heap.rows for heap in listed], without_hooks(rises, steps))
            self.assertTrue(all(one < other for one, other in zip(listed, listed[1:])))
            self.assertEqual(len(listed), way_count(slope))
            self.assertTrue(all(heap.__class__ is Heap for heap in listed))

    def test_shelves(self):
        for rises, steps in coprime_sides(12):
            slope = Slope(rises, steps)
            found = []
            for shelf in shelves(slope):
                heap = heap_of(shelf)
                found.append(heap)
                self.assertEqual(heap.first_hooks, shelf.gaps)
                self.assertEqual(shelf_of(slope, heap), shelf)
                self.assertEqual(heap_of(shelf.dual()), heap.turned())
                self.assertLessEqual(max(len(heap), len(heap.turned())), slope.half)
                self.assertTrue(heap.is_without(rises) and heap.is_without(steps))
            self.assertEqual(sorted(heap.rows for heap in found), sorted(heap.rows for heap in heaps(slope)))

    def test_greatest_and_mean(self):
        for rises, steps in coprime_sides(18):
            slope = Slope(rises, steps)
            listed = list(heaps(slope))
            top = greatest(slope)
            self.assertEqual(top, heap_of(Shelf.of_way(highest(slope))))
            self.assertEqual(top.size, (rises * rises - 1) * (steps * steps - 1) // 24)
            self.assertEqual(top.turned(), top)
            self.assertTrue(all(top.holds(heap) for heap in listed))
            average = Fraction(sum(heap.size for heap in listed), len(listed))
            self.same(mean(slope), (average.numerator, average.denominator))

    def test_far_means(self):
        for rises, steps in ((60, 59), (1, 60), (60, 1), (1, 1), (60, 7), (37, 60)):
            top, bottom = mean(Slope(rises, steps))
            average = Fraction((rises + steps + 1) * (rises - 1) * (steps - 1), 24)
            self.assertEqual((top, bottom), (average.numerator, average.denominator))
        self.same(mean(Slope(1, 60)), (0, 1))

    def test_sides_of_one(self):
        for slope in (Slope(1, 1), Slope(1, 60), Slope(60, 1)):
            self.assertEqual([heap.rows for heap in heaps(slope)], [()])
            self.assertEqual(greatest(slope), Heap())
            self.assertEqual(shelf_of(slope, Heap()), Shelf(slope))
            self.raised_number(Refused, ("hook", 0, 0), shelf_of, slope, Heap((1,)))

    def test_first_hook_that_is_refused(self):
        for rises, steps in ((3, 5), (2, 3), (4, 3), (5, 2)):
            for rows in boxed(5, 5):
                hooks = Heap(rows).hooks()
                wrong = [(i, j) for i, row in enumerate(hooks) for j, hook in enumerate(row) if hook in (rises, steps)]
                if wrong:
                    self.raised_number(Refused, ("hook",) + wrong[0], shelf_of, Slope(rises, steps), Heap(rows))
                else:
                    self.assertEqual(heap_of(shelf_of(Slope(rises, steps), Heap(rows))), Heap(rows))


class LimitsTest(Case):
    def test_half_of_sixty(self):
        for rises, steps in ((4, 41), (41, 4), (3, 59)):
            slope = Slope(rises, steps)
            listed = list(heaps(slope))
            self.assertEqual(len(listed), way_count(slope))
            self.assertEqual(listed[-1], greatest(slope))
            self.assertEqual(max(len(heap) for heap in listed), slope.half)
        top = greatest(Slope(9, 16))
        self.assertEqual((len(top), top.rows[0], top.size), (60, 60, 80 * 255 // 24))

    def test_more_rows(self):
        for slope in (Slope(4, 43), Slope(43, 4), Slope(5, 32), Slope(59, 60), Slope(60, 59)):
            self.assertGreater(slope.half, 60)
            listed = heaps(slope)
            self.raised_number(TooMany, 60, next, listed)
            self.raised_number(TooMany, 60, greatest, slope)
            self.raised_number(TooMany, 60, heap_of, Shelf.of_way(highest(slope)))
            self.assertEqual(heap_of(Shelf.of_way(lowest(slope))), Heap())

    def test_too_many_heaps(self):
        self.same(MAX_HEAPS, 5000)
        for slope in (Slope(5, 26), Slope(5, 31), Slope(31, 5), Slope(11, 13)):
            self.assertLessEqual(slope.half, 60)
            listed = heaps(slope)
            self.raised_number(TooMany, 5000, next, listed)
            self.assertEqual(greatest(slope).first_hooks, Shelf.of_way(highest(slope)).gaps)
        self.assertEqual(sum(1 for _ in heaps(Slope(9, 10))), 4862)

    def test_just_at_the_limit(self):
        with patch.object(module, "MAX_HEAPS", 7):
            self.assertEqual(len(list(heaps(ODD))), 7)
        with patch.object(module, "MAX_HEAPS", 6):
            self.raised_number(TooMany, 6, list, heaps(ODD))


class FalseStatementsTest(Case):
    def test_shelf_within_a_shelf(self):
        one, other = Shelf(ODD, (2,)), Shelf(ODD, (1, 2))
        self.assertTrue(one.holds(other))
        self.assertEqual([str(heap_of(one)), str(heap_of(other))], ["2", "1 1"])
        self.assertFalse(heap_of(one).holds(heap_of(other)) or heap_of(other).holds(heap_of(one)))

    def test_mean_that_is_no_integer(self):
        self.assertEqual(mean(Slope(2, 3)), (1, 2))


class WrongArgumentsTest(Case):
    def test_wrong_slopes(self):
        for value in wrong_for(Slope):
            listed = heaps(value)
            self.raised(InvalidSlope, next, listed)
            for heap in (Heap(), None, value):
                self.raised(InvalidSlope, shelf_of, value, heap)
            self.raised(InvalidSlope, greatest, value)
            self.raised(InvalidSlope, mean, value)

    def test_common_part(self):
        for rises, steps, common in COMMON:
            slope = Slope(rises, steps)
            listed = heaps(slope)
            self.raised_number(Refused, ("common", common), next, listed)
            for call, arguments in ((greatest, ()), (mean, ()), (shelf_of, (Heap(),)), (shelf_of, (Heap((2,)),))):
                self.raised_number(Refused, ("common", common), call, slope, *arguments)
            self.raised(InvalidHeap, shelf_of, slope, None)

    def test_wrong_heaps_and_shelves(self):
        for value in wrong_for(Heap) + [(3, 1)]:
            self.raised(InvalidHeap, shelf_of, ODD, value)
        for value in wrong_for(Shelf):
            self.raised(InvalidShelf, heap_of, value)


if __name__ == "__main__":
    unittest.main()
