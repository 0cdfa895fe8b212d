"""Promises [5.1] to [5.9], and the functions of slantways.count.counts."""
import unittest
from math import gcd

from slantways.count.counts import (
    counts_of, free_numbers, level_pairs, paired_squares, pairs, room, room_rows, sky,
)
from slantways.errors import InvalidShelf, InvalidWay, Refused
from slantways.heap.heaps import Heap
from slantways.shelf.shelves import Shelf
from slantways.way.ways import Slope, Way, highest, lowest, way_at, way_count, ways
from tests.helper import Case, small_sides, wrong_for

FLAT = Slope(3, 4)
WAY = Way(FLAT, "rsrrsss")
SIDES = [(rises, steps) for rises, steps in small_sides(11) if gcd(rises, steps) == 1]
FAR = [(59, 60), (60, 59), (60, 7), (7, 60), (1, 60), (60, 1), (37, 24)]


def far_ways():
    """Some ways of slopes with long sides."""
    found = []
    for rises, steps in FAR:
        slope = Slope(rises, steps)
        count = way_count(slope)
        found.extend([highest(slope), lowest(slope), way_at(slope, count // 3), way_at(slope, count * 2 // 3)])
    return found


def all_ways():
    """All ways of small slopes, and some of slopes with long sides."""
    found = far_ways()
    for rises, steps in SIDES:
        found.extend(ways(Slope(rises, steps)))
    return found


def steps_ahead(way):
    """How many steps stand ahead of each rise, from the first rise on."""
    return [way.text[:place].count("s") for place, letter in enumerate(way.text) if letter == "r"]


class ExamplesTest(Case):
    def test_way(self):
        shown = [room(WAY), room_rows(WAY), sky(WAY).rows, pairs(WAY), paired_squares(WAY), level_pairs(WAY),
                 counts_of(WAY)]
        self.assertEqual(shown, [1, (0, 0, 1), (1, 1), 1, ((1, 0),), ((1, 3), (6, 3)), (1, 1)])

    def test_bounds(self):
        shown = [free_numbers(Shelf.of_way(WAY)), free_numbers(Shelf.of_way(highest(FLAT))),
                 counts_of(highest(FLAT)), counts_of(lowest(FLAT))]
        self.assertEqual(shown, [(1, 1, 0), (2, 1, 0), (3, 0), (0, 3)])

    def test_all_of_one_slope(self):
        shown = [(str(one), counts_of(one)) for one in ways(FLAT)]
        self.assertEqual(shown, [("rrrssss", (3, 0)), ("rrsrsss", (2, 1)), ("rrssrss", (1, 2)), ("rsrrsss", (1, 1)),
                                 ("rsrsrss", (0, 3))])

    def test_exchanged(self):
        shown = [counts_of(WAY.exchanged()), sky(WAY.exchanged()).rows, sky(lowest(FLAT)).rows,
                 paired_squares(lowest(FLAT))]
        self.assertEqual(shown, [(1, 1), (2,), (2, 1), ((0, 0), (0, 1), (1, 0))])

    def test_common_part(self):
        self.raised_number(Refused, ("common", 2), room, Way(Slope(2, 4), "rrssss"))


class RoomTest(Case):
    def test_whole_squares(self):
        for way in all_ways():
            rises, steps = way.slope.rises, way.slope.steps
            rows = []
            for row, start in enumerate(steps_ahead(way)):
                # The right lower corner of a square is the one that is nearest to the line.
                rows.append(sum(1 for column in range(start, steps) if row * steps >= (column + 1) * rises))
            self.same(room_rows(way), tuple(rows))
            self.same(room(way), sum(rows))
            self.assertEqual(rows[0], 0)

    def test_gaps(self):
        for way in all_ways():
            self.assertEqual(room(way), len(Shelf.of_way(way).gaps))
            levels = [level for letter, level in zip(way.text, way.levels) if letter == "r"]
            self.assertEqual(room_rows(way), tuple(level // way.slope.rises for level in levels))


class SkyTest(Case):
    def test_rows(self):
        for way in all_ways():
            rows = [ahead for ahead in steps_ahead(way)[::-1] if ahead > 0]
            above = sky(way)
            self.assertIs(above.__class__, Heap)
            self.assertEqual(above.rows, tuple(rows))
            self.assertEqual(above.rows == (), way == highest(way.slope))

    def test_exchanged(self):
        for way in all_ways():
            self.assertEqual(sky(way.exchanged()), sky(way).turned())


class PairsTest(Case):
    def test_paired_squares(self):
        for way in all_ways():
            rises, steps = way.slope.rises, way.slope.steps
            rows = sky(way).rows
            found = []
            for i, row in enumerate(rows):
                for j in range(row):
                    arm, leg = row - j - 1, sum(1 for other in rows[i + 1:] if other > j)
                    if arm * rises < steps * (leg + 1) and steps * leg < rises * (arm + 1):
                        found.append((i, j))
            self.same(paired_squares(way), tuple(found))
            self.same(pairs(way), len(found))

    def test_level_pairs(self):
        for way in all_ways():
            found = [(at, other) for at, one in enumerate(way.text) for other, two in enumerate(way.text)
                     if one + two == "sr" and way.levels[at] < way.levels[other]]
            self.same(level_pairs(way), tuple(found))

    def test_free_numbers(self):
        for way in all_ways():
            shelf = Shelf.of_way(way)
            free = [sum(1 for gap in range(maker, maker + way.slope.steps) if gap not in shelf)
                    for maker in shelf.rise_makers]
            self.same(free_numbers(shelf), tuple(free))

    def test_three_manners(self):
        for way in all_ways():
            half = way.slope.half
            many = pairs(way)
            self.assertEqual(many, half - len(level_pairs(way)))
            self.assertEqual(many, half - sum(free_numbers(Shelf.of_way(way))))


class CountsTest(Case):
    def test_bounds(self):
        for way in all_ways():
            counts = counts_of(way)
            self.same(counts, (room(way), pairs(way)))
            self.assertLessEqual(sum(counts), way.slope.half)
            self.assertEqual(counts_of(way.exchanged()), counts)
            self.assertEqual(counts == (way.slope.half, 0), way == highest(way.slope))
            self.assertEqual(counts == (0, way.slope.half), way == lowest(way.slope))

    def test_sides_of_one(self):
        for slope in (Slope(1, 1), Slope(1, 60), Slope(60, 1)):
            way = highest(slope)
            shown = (counts_of(way), room_rows(way), sky(way).rows, paired_squares(way), level_pairs(way))
            self.assertEqual(shown, ((0, 0), (0,) * slope.rises, (), (), ()))
            self.assertEqual(free_numbers(Shelf(slope)), (0,) * slope.rises)


class FalseStatementsTest(Case):
    def test_equal_rooms(self):
        one, other = Way(FLAT, "rrssrss"), Way(FLAT, "rsrrsss")
        self.assertEqual([counts_of(one), counts_of(other)], [(1, 2), (1, 1)])

    def test_room_of_the_exchanged_way(self):
        way = highest(FLAT)
        self.assertEqual([pairs(way), room(way.exchanged())], [0, 3])

    def test_square_of_the_lowest_way(self):
        self.assertIn((0, 0), paired_squares(lowest(FLAT)))
        self.assertGreaterEqual(sky(WAY).rows[0], 1)
        self.assertNotIn((0, 0), paired_squares(WAY))

    def test_one_more_room(self):
        one, other = Way(FLAT, "rsrsrss"), Way(FLAT, "rsrrsss")
        self.assertEqual([counts_of(one), counts_of(other)], [(0, 3), (1, 1)])


class WrongArgumentsTest(Case):
    CALLS = (room, room_rows, sky, pairs, paired_squares, level_pairs, counts_of)

    def test_wrong_ways(self):
        for value in wrong_for(Way) + ["rrrssss"]:
            for call in self.CALLS:
                self.raised(InvalidWay, call, value)

    def test_common_part(self):
        for rises, steps, common in ((2, 4, 2), (1, 1, 1), (60, 60, 60), (45, 60, 15), (6, 9, 3)):
            for way in (highest(Slope(rises, steps)), lowest(Slope(rises, steps))):
                for call in self.CALLS:
                    if common > 1:
                        self.raised_number(Refused, ("common", common), call, way)
                    else:
                        call(way)

    def test_wrong_shelves(self):
        for value in wrong_for(Shelf) + [WAY, (1, 2)]:
            self.raised(InvalidShelf, free_numbers, value)


if __name__ == "__main__":
    unittest.main()
