"""Promises [3.6], [3.8] and [3.9]: rows of moves, all shelves of a slope, and fillings."""
import unittest
from itertools import islice, product
from unittest.mock import patch

from slantways.errors import InvalidShelf, InvalidSlope, Refused, TooMany
from slantways.shelf import shelves as module
from slantways.shelf.shelves import MAX_LISTED, Shelf, filling_count, is_moves, moves, shelves
from slantways.way.ways import Slope, highest, lowest, way_count
from tests.helper import Case, coprime_sides, gap_sets, is_closed, wrong_for, wrong_values

ODD = Slope(3, 5)
B = Slope(3, 4)


def neighbours(gaps, rises, steps):
    """All sets of gaps that one move leads to, with the move."""
    found = {}
    for number in range(1, (rises - 1) * (steps - 1)):
        changed = tuple(sorted(set(gaps) ^ {number}))
        if is_closed(changed, rises, steps):
            found["+" if number in gaps else "-", number] = changed
    return found


def distances(start, rises, steps):
    """The least numbers of moves from one set of gaps to all others."""
    far = {start: 0}
    waiting = [start]
    for gaps in waiting:
        for changed in neighbours(gaps, rises, steps).values():
            if changed not in far:
                far[changed] = far[gaps] + 1
                waiting.append(changed)
    return far


def fillings(gaps, rises, steps):
    """The number of orders in which all gaps can be added, one by one."""
    if not gaps:
        return 1
    rests = [tuple(other for other in gaps if other != gap) for gap in gaps]
    return sum(fillings(rest, rises, steps) for rest in rests if is_closed(rest, rises, steps))


class ExamplesTest(Case):
    def test_moves(self):
        one, other, third = Shelf(ODD, (1, 2, 4)), Shelf(ODD, (1, 4)), Shelf(ODD, (1, 2))
        shown = [moves(other, one), is_moves(other, third, (("+", 4), ("-", 2))),
                 is_moves(other, third, (("-", 2), ("+", 4)))]
        self.assertEqual(shown, [(("-", 2),), True, True])

    def test_listed(self):
        listed = [(), (1,), (2,), (1, 2), (1, 4), (1, 2, 4), (1, 2, 4, 7)]
        self.assertEqual([[shelf.gaps for shelf in shelves(ODD)], filling_count(ODD)], [listed, 3])


class MovesTest(Case):
    def test_shortest(self):
        for rises, steps in coprime_sides(8):
            slope = Slope(rises, steps)
            for start in gap_sets(rises, steps):
                far = distances(start, rises, steps)
                for end in gap_sets(rises, steps):
                    self.check_moves(Shelf(slope, start), Shelf(slope, end), far[end])

    def check_moves(self, one, other, many):
        row = moves(one, other)
        self.assertEqual((len(row), row.__class__), (many, tuple))
        self.assertEqual(many, len(set(one.gaps) ^ set(other.gaps)))
        self.assertIs(is_moves(one, other, row), True)
        shelf = one
        for sign, number in row:
            shelf = shelf.added(number) if sign == "+" else shelf.removed(number)
        self.assertEqual(shelf, other)
        back = tuple(("-" if sign == "+" else "+", number) for sign, number in row[::-1])
        self.assertIs(is_moves(other, one, back), True)

    def test_all_rows(self):
        for rises, steps, most in ((3, 4, 3), (2, 7, 3), (3, 5, 2), (1, 4, 1)):
            slope = Slope(rises, steps)
            all_gaps = gap_sets(rises, steps)
            every = [(sign, number) for sign in "+-" for number in range(-1, (rises - 1) * (steps - 1) + 3)]
            for start in all_gaps:
                far = distances(start, rises, steps)
                for size in range(most + 1):
                    for row in product(every, repeat=size):
                        end = start
                        for move in row:
                            end = None if end is None else neighbours(end, rises, steps).get(move)
                        for other in all_gaps:
                            expected = other == end and far[other] == size
                            if expected or size < 2:
                                self.assertIs(is_moves(Shelf(slope, start), Shelf(slope, other), row), expected)
                        if end is None:
                            shelf = Shelf(slope, all_gaps[-1])
                            self.assertIs(is_moves(Shelf(slope, start), shelf, row), False)

    def test_longer_rows(self):
        one = Shelf(ODD, (1, 4))
        self.assertIs(is_moves(one, one, ()), True)
        self.assertIs(is_moves(one, one, (("+", 4), ("-", 4))), False)
        self.assertIs(is_moves(one, Shelf(ODD, (1,)), (("+", 4), ("+", 1), ("-", 1))), False)
        self.assertIs(is_moves(one, Shelf(ODD, (1,)), (("+", 4),)), True)
        self.assertIs(is_moves(one, Shelf(ODD, (1,)), (("+", 1),)), False)
        self.assertIs(is_moves(one, Shelf(ODD), (("+", 1), ("+", 4))), False)
        self.assertIs(is_moves(one, Shelf(ODD), (("+", 4), ("+", 1))), True)
        self.assertIs(is_moves(Shelf(ODD), one, (("-", 1), ("-", 4))), True)
        self.assertIs(is_moves(Shelf(ODD), one, (("-", 4), ("-", 1))), False)

    def test_far(self):
        slope = Slope(59, 60)
        high, low = Shelf.of_way(highest(slope)), Shelf.of_way(lowest(slope))
        middle = Shelf.of_makers(slope, (0, 7, 100, 1003))
        for one, other in ((high, low), (low, high), (high, middle), (middle, low), (low, middle)):
            row = moves(one, other)
            self.assertEqual(len(row), abs(len(one.gaps) - len(other.gaps)))
            self.assertIs(is_moves(one, other, row), True)
            self.assertIs(is_moves(one, other, row[:-1]), False)
            self.assertIs(is_moves(one, other, row[:-1] + row[:1]), False)
            self.assertIs(is_moves(one, other, row[1:] + row[:1]), False)

    def test_wrong_value(self):
        one, other = Shelf(ODD, (1, 4)), Shelf(ODD, (1,))
        wrong = [[("+", 4)], (["+", 4],), (("+", 4, 0),), (("+",),), ("+4",), ("+", 4), (("+", "4"),), (("-", 4),),
                 (("+", True),), ((True, 4),), (("", 4),), (("+-", 4),), ((None, 4),), ((("+",), 4),), ((["+"], 4),),
                 (("+", [4]),), (("+", 10 ** 99),), (("-", 10 ** 99),), ((other, 4),), (("+", one),), (4,), ((),)]
        for value in wrong + wrong_values():
            self.assertIs(is_moves(one, other, value), False)
        self.assertIs(is_moves(other, one, (("-", 4),)), True)
        for sign in ("", "*", "+-", "--", "+", None, True, 0, ("-",), ["-"], one):
            self.assertIs(is_moves(other, one, ((sign, 4),)), False)
        self.assertIs(is_moves(Shelf(ODD, (1,)), Shelf(ODD), (("+", True),)), False)
        self.assertIs(is_moves(Shelf(ODD, (1,)), Shelf(ODD), (("+", 1),)), True)

    def test_wrong_shelves(self):
        shelf = Shelf(ODD)
        for value in wrong_for(Shelf):
            for other in (shelf, value, None):
                self.raised(InvalidShelf, moves, value, other)
                self.raised(InvalidShelf, is_moves, value, other, ())
            self.raised(InvalidShelf, moves, shelf, value)
            self.raised(InvalidShelf, is_moves, shelf, value, None)
        for slope in (Slope(5, 3), B, Slope(1, 1)):
            self.raised(InvalidShelf, moves, shelf, Shelf(slope))
            self.raised(InvalidShelf, is_moves, shelf, Shelf(slope), ())


class ListedTest(Case):
    def test_all(self):
        for rises, steps in coprime_sides(12):
            slope = Slope(rises, steps)
            listed = list(shelves(slope))
            expected = sorted(gap_sets(rises, steps), key=lambda gaps: (len(gaps), gaps))
            self.assertEqual([shelf.gaps for shelf in listed], expected)
            self.assertTrue(all(shelf.__class__ is Shelf and shelf.slope == slope for shelf in listed))

    def test_order_with_more_digits(self):
        for slope in (Slope(9, 10), Slope(3, 59), Slope(59, 3)):
            keys = [(len(shelf.gaps), shelf.gaps) for shelf in shelves(slope)]
            self.assertEqual(len(keys), way_count(slope))
            self.assertTrue(all(one < other for one, other in zip(keys, keys[1:])))

    def test_fillings(self):
        for rises, steps in coprime_sides(12):
            most = max(gap_sets(rises, steps), key=len)
            self.same(filling_count(Slope(rises, steps)), fillings(most, rises, steps))
        for slope in (Slope(1, 1), Slope(1, 60), Slope(60, 1)):
            self.same(filling_count(slope), 1)
            self.assertEqual([shelf.gaps for shelf in shelves(slope)], [()])
        self.same(filling_count(Slope(2, 59)), 1)

    def test_limit(self):
        self.same(MAX_LISTED, 5000)
        for slope, count in ((Slope(4, 47), 4900), (Slope(47, 4), 4900)):
            self.assertEqual(way_count(slope), count)
            self.assertEqual(sum(1 for _ in shelves(slope)), count)
            self.assertGreater(filling_count(slope), 10 ** 20)
        for slope in (Slope(5, 26), Slope(26, 5), Slope(59, 60), Slope(60, 59)):
            listed = shelves(slope)
            self.raised_number(TooMany, 5000, next, listed)
            self.raised_number(TooMany, 5000, filling_count, slope)

    def test_just_at_the_limit(self):
        with patch.object(module, "MAX_LISTED", 7):
            self.assertEqual(len(list(shelves(ODD))), 7)
            self.assertEqual(filling_count(ODD), 3)
        with patch.object(module, "MAX_LISTED", 6):
            self.raised_number(TooMany, 6, list, shelves(ODD))
            self.raised_number(TooMany, 6, filling_count, ODD)

    def test_wrong_slopes(self):
        for value in wrong_for(Slope):
            listed = shelves(value)
            self.raised(InvalidSlope, next, listed)
            self.raised(InvalidSlope, filling_count, value)
        for slope, common in ((Slope(4, 6), 2), (Slope(60, 60), 60), (Slope(60, 45), 15)):
            listed = shelves(slope)
            self.raised_number(Refused, ("common", common), next, listed)
            self.raised_number(Refused, ("common", common), filling_count, slope)

    def test_two_generators(self):
        one, other = shelves(ODD), shelves(ODD)
        self.assertEqual([shelf.gaps for shelf in islice(one, 3)], [shelf.gaps for shelf in islice(other, 3)])


if __name__ == "__main__":
    unittest.main()
