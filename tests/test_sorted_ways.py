"""Promises [6.9] to [6.12], and the functions that sort ways."""
import unittest
from math import gcd
from unittest.mock import patch

from slantways.count.counts import pairs, room
from slantways.errors import InvalidWay, Refused, TooMany
from slantways.shelf.shelves import Shelf
from slantways.sort import sorting as module
from slantways.sort.sorting import MAX_SORTED_WAY, Scale, sorted_way, unsorted_way, way_rounds
from slantways.way.turns import turned
from slantways.way.ways import Slope, Way, highest, lowest, way_at, way_count, ways
from tests.helper import Case, small_sides, wrong_for

B = Slope(3, 4)
SIDES = [(rises, steps) for rises, steps in small_sides(11) if gcd(rises, steps) == 1]
COMMON = ((4, 6, 2), (2, 2, 2), (60, 60, 60), (45, 60, 15))


def all_ways():
    """All ways of small slopes."""
    return [way for rises, steps in SIDES for way in ways(Slope(rises, steps))]


def letters_by(way, levels, falling=False):
    """The letters of a way by levels that are unlike."""
    return "".join(letter for _, letter in sorted(zip(levels, way.text), reverse=falling))


def far_ways():
    """Some ways of forty letters."""
    found = []
    for rises, steps in ((19, 21), (21, 19), (3, 37), (1, 39), (39, 1)):
        slope = Slope(rises, steps)
        count = way_count(slope)
        found.extend(way_at(slope, count * part // 10) for part in range(10))
    return found


class ExamplesTest(Case):
    def test_sorted(self):
        shown = [str(sorted_way(way)) for way in ways(B)]
        self.assertEqual(shown, ["rsrsrss", "rsrrsss", "rrsrsss", "rrssrss", "rrrssss"])

    def test_back(self):
        shown = [str(unsorted_way(Way(B, "rrsrsss"))), [way_rounds(way) for way in ways(B)]]
        self.assertEqual(shown, ["rrssrss", [2, 3, 3, 3, 2]])

    def test_common_part(self):
        self.raised_number(Refused, ("common", 2), way_rounds, Way(Slope(4, 6), "rrrrssssss"))


class SortedTest(Case):
    def test_levels(self):
        for way in all_ways() + far_ways() + [highest(Slope(59, 60)), lowest(Slope(60, 59))]:
            one = sorted_way(way)
            self.assertIs(one.__class__, Way)
            self.assertEqual(one.slope, way.slope)
            self.assertEqual(one.text, letters_by(way, way.levels))

    def test_one_to_one(self):
        for rises, steps in SIDES:
            listed = list(ways(Slope(rises, steps)))
            self.assertEqual(sorted(sorted_way(way).text for way in listed), [way.text for way in listed])

    def test_unsorted(self):
        for way in all_ways() + far_ways():
            self.assertEqual(unsorted_way(sorted_way(way)), way)
            self.assertEqual(sorted_way(unsorted_way(way)), way)

    def test_words_from_the_end(self):
        for way in all_ways():
            scale = Scale({"a": -way.slope.steps, "b": way.slope.rises})
            text = way.text[::-1].replace("r", "a").replace("s", "b")
            word = scale.sorted_text(text)[::-1].replace("a", "r").replace("b", "s")
            self.assertEqual(word, sorted_way(way).text)

    def test_room_is_pairs(self):
        for way in all_ways() + far_ways():
            self.assertEqual(room(sorted_way(way)), pairs(way))

    def test_dual(self):
        for way in all_ways():
            dual = Shelf.of_way(way).dual().way()
            behind = way.levels[1:] + (0,)
            self.assertEqual(sorted_way(dual).text, letters_by(way, behind, falling=True))
            self.assertEqual(sorted_way(dual), sorted_way(way.exchanged()).exchanged())

    def test_turned_words(self):
        for way in all_ways():
            scale = Scale({"a": -way.slope.steps, "b": way.slope.rises})
            for number in range(len(way)):
                less = sum(1 for level in way.levels if level < way.levels[number])
                text = turned(way.slope, way.text, number)[::-1].replace("r", "a").replace("s", "b")
                word = scale.sorted_text(text)[::-1].replace("a", "r").replace("b", "s")
                self.assertEqual(word, turned(way.slope, sorted_way(way).text, less))

    def test_sorting_twice_does_not_lead_back(self):
        way = Way(B, "rrsrsss")
        self.assertEqual(str(sorted_way(sorted_way(way))), "rrssrss")


class RoundsTest(Case):
    def test_all(self):
        for rises, steps in SIDES:
            for way in ways(Slope(rises, steps)):
                many, one = 1, sorted_way(way)
                while one != way:
                    many, one = many + 1, sorted_way(one)
                self.same(way_rounds(way), many)

    def test_limit(self):
        for slope in (Slope(19, 21), Slope(13, 27)):
            way = way_at(slope, way_count(slope) // 2)
            self.assertEqual(len(way), 40)
            self.raised_number(TooMany, 5000, way_rounds, way)
        self.same(way_rounds(highest(Slope(1, 39))), 1)
        self.same(way_rounds(highest(Slope(19, 21))), 2)

    def test_just_at_the_limit(self):
        for way in ways(Slope(4, 7)):
            many = way_rounds(way)
            with patch.object(module, "MAX_ROUNDS", many):
                self.assertEqual(way_rounds(way), many)
            with patch.object(module, "MAX_ROUNDS", many - 1):
                if many > 1:
                    self.raised_number(TooMany, many - 1, way_rounds, way)


class WrongArgumentsTest(Case):
    CALLS = (sorted_way, unsorted_way, way_rounds)

    def test_wrong_ways(self):
        for value in wrong_for(Way) + ["rrrssss", "ab"]:
            for call in self.CALLS:
                self.raised(InvalidWay, call, value)

    def test_common_part(self):
        for rises, steps, common in COMMON:
            for way in (highest(Slope(rises, steps)), lowest(Slope(rises, steps))):
                for call in self.CALLS:
                    self.raised_number(Refused, ("common", common), call, way)

    def test_more_letters(self):
        self.same(MAX_SORTED_WAY, 40)
        for rises, steps in ((20, 21), (21, 20), (1, 40), (40, 1), (59, 60)):
            way = lowest(Slope(rises, steps))
            self.raised_number(TooMany, 40, unsorted_way, way)
            self.raised_number(TooMany, 40, way_rounds, way)
            self.assertEqual(sorted_way(way), highest(way.slope))
        for rises, steps in ((19, 21), (1, 39), (39, 1)):
            way = highest(Slope(rises, steps))
            self.assertEqual(unsorted_way(way), lowest(way.slope))


if __name__ == "__main__":
    unittest.main()
