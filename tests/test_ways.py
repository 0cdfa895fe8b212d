"""Promises [0.10] to [0.12] and [1.2] to [1.4], the class Way and the functions beside it."""
import unittest
from collections import Counter
from itertools import islice, permutations
from math import comb, factorial, gcd

from slantways.errors import InvalidNumber, InvalidOperation, InvalidSlope, InvalidWay, Refused
from slantways.way.ways import (
    Slope, Way, highest, is_way, lowest, run_count, way_at, way_count, way_index, ways,
)
from tests.helper import Case, all_words, levels_of, small_sides, way_texts, wrong_values

B = Slope(3, 4)
MID = Way(B, "rrsrsss")


class ExamplesTest(Case):
    def test_way(self):
        shown = [MID.levels, MID.runs, str(MID.exchanged()), len(MID), is_way(B, "rsrsrss"), is_way(B, "rssrrss"),
                 is_way(B, "rrsss")]
        self.assertEqual(shown, [(0, 4, 8, 5, 9, 6, 3), (2, 1), "rrrsrss", 7, True, False, False])

    def test_counts(self):
        shown = [[str(way) for way in ways(B)], way_count(Slope(3, 5)), way_count(Slope(2, 2)),
                 way_count(Slope(2, 4)), way_count(Slope(1, 9))]
        listed = ["rrrssss", "rrsrsss", "rrssrss", "rsrrsss", "rsrsrss"]
        self.assertEqual(shown, [listed, 7, 2, 3, 1])

    def test_places(self):
        shown = [str(way_at(B, 3)), way_index(MID), str(highest(B)), str(lowest(B)), run_count(B, (1, 2)),
                 run_count(B, (3,)), run_count(B, (1, 1, 1))]
        self.assertEqual(shown, ["rsrrsss", 1, "rrrssss", "rsrsrss", 3, 1, 1])


class WayTest(Case):
    def test_all_small_words(self):
        for rises, steps in small_sides(9):
            slope = Slope(rises, steps)
            texts = way_texts(rises, steps)
            for word in all_words(rises, steps):
                self.assertIs(is_way(slope, word), word in texts)
                if word in texts:
                    self.check_way(slope, Way(slope, word), word)
                else:
                    self.raised(InvalidWay, Way, slope, word)

    def check_way(self, slope, way, text):
        self.assertEqual((way.slope, way.text, str(way), len(way)), (slope, text, text, len(text)))
        self.assertEqual(way.levels, tuple(levels_of(slope.rises, slope.steps, text)))
        self.assertEqual(way.runs, tuple(len(run) for run in text.split("s") if run))
        self.assertEqual(list(way), list(text))
        self.assertEqual(list(iter(way)), list(text))
        back = way.exchanged()
        self.assertEqual(back.slope, slope.exchanged())
        self.assertEqual(back.text, text[::-1].replace("r", "x").replace("s", "r").replace("x", "s"))
        self.assertEqual(back.exchanged(), way)

    def test_kinds(self):
        for value in (MID.levels, MID.runs):
            self.assertIsInstance(value, tuple)
        self.assertIsInstance(MID.text, str)
        self.assertIs(str(MID).__class__, str)
        self.assertIsInstance(MID.slope, Slope)

    def test_greatest_sides(self):
        for rises, steps in ((60, 60), (60, 1), (1, 60), (1, 1)):
            slope = Slope(rises, steps)
            way = Way(slope, "r" * rises + "s" * steps)
            self.assertEqual((len(way), way.runs, way.levels[rises]), (rises + steps, (rises,), rises * steps))
        self.assertEqual(Way(Slope(60, 60), "rs" * 60).levels, (0, 60) * 60)

    def test_wrong_slope_comes_first(self):
        for value in wrong_values():
            if not isinstance(value, Slope):
                self.raised(InvalidSlope, Way, value, "rrrssss")
                self.raised(InvalidSlope, Way, value, None)
                self.raised(InvalidSlope, is_way, value, "rrrssss")

    def test_wrong_text(self):
        for value in wrong_values() + ["rrrsss", "rrrsssss", "srrrsss", "rrrssss ", "RRRSSSS", "rrrxssss", "rrrsssx"]:
            self.raised(InvalidWay, Way, B, value)
            self.assertIs(is_way(B, value), False)
        for value in (list("rrrssss"), tuple("rrrssss"), Way(B, "rrrssss")):
            self.raised(InvalidWay, Way, B, value)
            self.assertIs(is_way(B, value), False)

    def test_equal(self):
        self.assertTrue(MID == Way(Slope(3, 4), "rrsrsss"))
        self.assertFalse(MID != Way(Slope(3, 4), "rrsrsss"))
        self.assertTrue(MID != highest(B))
        self.assertTrue(MID != MID.exchanged())
        for value in wrong_values() + ["rrsrsss"]:
            self.assertIs(MID == value, False)
            self.assertIs(value == MID, False)
            self.assertIs(MID != value, True)

    def test_order(self):
        found = []
        for rises, steps in small_sides(6):
            found.extend((rises, steps, text) for text in way_texts(rises, steps))
        for one in found:
            for other in found:
                left, right = Way(Slope(*one[:2]), one[2]), Way(Slope(*other[:2]), other[2])
                self.assertIs(left < right, one < other)
                self.assertIs(left > right, one > other)

    def test_order_with_another_kind(self):
        for value in wrong_values() + ["rrsrsss"]:
            if not isinstance(value, Way):
                with self.assertRaises(TypeError):
                    MID < value
                with self.assertRaises(TypeError):
                    value < MID
                with self.assertRaises(TypeError):
                    MID + value

    def test_never_changes(self):
        for name in ("slope", "text", "levels", "runs"):
            with self.assertRaises(AttributeError):
                setattr(MID, name, None)


class CountTest(Case):
    def test_by_brute_force(self):
        for rises, steps in small_sides(11):
            slope = Slope(rises, steps)
            texts = way_texts(rises, steps)
            self.assertEqual([way.text for way in ways(slope)], texts)
            self.same(way_count(slope), len(texts))
            self.assertEqual([way_at(slope, index).text for index in range(len(texts))], texts)
            self.assertEqual([way_index(Way(slope, text)) for text in texts], list(range(len(texts))))

    def test_coprime_quotient(self):
        for rises in range(1, 61):
            for steps in range(1, 61):
                if gcd(rises, steps) == 1:
                    count = factorial(rises + steps - 1) // (factorial(rises) * factorial(steps))
                    self.assertEqual(way_count(Slope(rises, steps)), count)

    def test_sum_for_common_parts(self):
        for rises, steps, most in ((1, 1, 60), (2, 3, 20), (3, 4, 15), (12, 5, 5), (29, 30, 2)):
            counts = [1] + [way_count(Slope(rises * size, steps * size)) for size in range(1, most + 1)]
            both = rises + steps
            for size in range(1, most + 1):
                parts = range(1, size + 1)
                total = sum(counts[size - part] * comb(part * both, part * rises) for part in parts)
                self.assertEqual(size * counts[size] * both, total)

    def test_equal_sides(self):
        self.same(way_count(Slope(60, 60)), comb(120, 60) // 61)
        self.same(way_count(Slope(1, 1)), 1)
        self.same(way_count(Slope(60, 1)), 1)
        self.same(way_count(Slope(1, 60)), 1)

    def test_generator_is_lazy(self):
        first = list(islice(ways(Slope(60, 60)), 3))
        head = "r" * 59 + "sr" + "s" * 59
        self.assertEqual([way.text for way in first], ["r" * 60 + "s" * 60, head, head[:59] + "ssr" + "s" * 58])
        for way in ways(Slope(2, 4)):
            self.assertIsInstance(way, Way)
            self.assertEqual(way.slope, Slope(2, 4))

    def test_generator_raises_at_the_first_element(self):
        for value in wrong_values():
            if not isinstance(value, Slope):
                listed = ways(value)
                self.raised(InvalidSlope, next, listed)

    def test_wrong_slopes(self):
        for value in wrong_values():
            if not isinstance(value, Slope):
                self.raised(InvalidSlope, way_count, value)
                self.raised(InvalidSlope, way_at, value, 0)
                self.raised(InvalidSlope, way_at, value, True)
                self.raised(InvalidSlope, highest, value)
                self.raised(InvalidSlope, lowest, value)

    def test_index_beyond(self):
        for slope in (B, Slope(1, 1), Slope(4, 6), Slope(60, 60), Slope(59, 60)):
            count = way_count(slope)
            self.assertEqual(way_at(slope, 0), highest(slope))
            self.assertEqual(way_at(slope, count - 1), lowest(slope))
            self.assertEqual(way_index(highest(slope)), 0)
            self.assertEqual(way_index(lowest(slope)), count - 1)
            for index in (-1, count, count + 1, -count, 10 ** 59, 10 ** 60, 10 ** 99, -10 ** 99):
                self.raised_number(InvalidNumber, index, way_at, slope, index)

    def test_wrong_index(self):
        for value in wrong_values():
            if not (value.__class__ is int and 0 <= value <= 4):
                self.assertIs(self.raised(InvalidNumber, way_at, B, value).value, value)

    def test_far_indices(self):
        for slope in (Slope(60, 60), Slope(59, 60), Slope(60, 7), Slope(24, 36)):
            count = way_count(slope)
            for index in (1, count // 3, count // 2, count - 2):
                self.same(way_index(way_at(slope, index)), index)

    def test_wrong_way(self):
        for value in wrong_values() + ["rrrssss"]:
            if not isinstance(value, Way):
                self.raised(InvalidWay, way_index, value)


class BoundsTest(Case):
    def test_least_and_greatest(self):
        for rises, steps in small_sides(10):
            slope = Slope(rises, steps)
            listed = list(ways(slope))
            high, low = highest(slope), lowest(slope)
            self.assertEqual(high, listed[0])
            self.assertEqual(low, listed[-1])
            self.assertEqual(high.text, "r" * rises + "s" * steps)
            for way in listed:
                for place in range(len(way)):
                    self.assertLessEqual(way.levels[place], high.levels[place])
                    self.assertGreaterEqual(way.levels[place], low.levels[place])

    def test_lowest_steps_where_it_can(self):
        for rises, steps in ((60, 60), (60, 1), (1, 60), (37, 60), (60, 24)):
            low = lowest(Slope(rises, steps))
            for letter, level in zip(low, low.levels):
                self.assertEqual(letter, "s" if level >= rises else "r")


class RunsTest(Case):
    def test_by_brute_force(self):
        for rises, steps in small_sides(11):
            if gcd(rises, steps) == 1:
                slope = Slope(rises, steps)
                found = Counter(tuple(sorted(way.runs)) for way in ways(slope))
                for lengths in splits(rises, rises):
                    self.same(run_count(slope, lengths), found.get(tuple(sorted(lengths)), 0))

    def test_sum_is_the_number_of_ways(self):
        for rises, steps in ((7, 9), (9, 7), (10, 21), (12, 5)):
            slope = Slope(rises, steps)
            total = sum(run_count(slope, lengths) for lengths in splits(rises, rises))
            self.assertEqual(total, way_count(slope))

    def test_quotient(self):
        slope = Slope(11, 60)
        count = factorial(59) // (factorial(60 - 6) * factorial(3) * factorial(2))
        for lengths in set(permutations((1, 1, 1, 2, 2, 4))):
            self.assertEqual(run_count(slope, lengths), count)

    def test_more_runs_than_steps(self):
        self.same(run_count(Slope(3, 2), (1, 1, 1)), 0)
        self.same(run_count(Slope(3, 2), (1, 2)), 1)
        self.same(run_count(Slope(59, 1), (1,) * 59), 0)
        self.same(run_count(Slope(59, 1), (59,)), 1)
        self.same(run_count(Slope(59, 60), (1,) * 59), 1)
        self.same(run_count(Slope(1, 1), (1,)), 1)

    def test_exchanged_runs(self):
        for way in ways(Slope(4, 7)):
            stretches = [len(stretch) for stretch in way.text.split("r") if stretch]
            self.assertEqual(way.exchanged().runs, tuple(stretches[::-1]))

    def test_wrong_lengths(self):
        wrong = [(), (2,), (4,), (1, 1), (1, 1, 2), (0, 3), (3, 0), (-1, 4), (4, -1), (True, 2), (2, True), (1, "2"),
                 [1, 2], [3], {1: 1, 2: 1}, "12", 3, None, ((1, 2),), (1, 1, None), (10 ** 99, 3 - 10 ** 99), (3, False)]
        for value in wrong + wrong_values():
            self.raised(InvalidOperation, run_count, B, value)
        self.raised(InvalidOperation, run_count, Slope(1, 1), (True,))

    def test_order_of_errors(self):
        for value in wrong_values():
            if not isinstance(value, Slope):
                self.raised(InvalidSlope, run_count, value, (1, 2))
                self.raised(InvalidSlope, run_count, value, None)
            self.raised_number(Refused, ("common", 2), run_count, Slope(4, 6), value)
        self.raised_number(Refused, ("common", 2), run_count, Slope(4, 6), (4,))
        self.raised_number(Refused, ("common", 60), run_count, Slope(60, 60), (60,))


def splits(total, most):
    """All descending tuples of integers of at least 1 with a sum, each also ascending."""
    if total == 0:
        return [()]
    found = []
    for first in range(1, min(total, most) + 1):
        found.extend((first,) + rest for rest in splits(total - first, first))
    return found


if __name__ == "__main__":
    unittest.main()
