"""Promises [11.1] to [11.3] and [11.6] to [11.8], the class Shuffle, and all shuffles of a slope."""
import inspect
import unittest
from itertools import permutations, product
from math import factorial, gcd
from unittest.mock import patch

from slantways.count.counts import counts_of, room
from slantways.count.tables import times
from slantways.errors import InvalidNumber, InvalidShuffle, InvalidSlope, InvalidWay, Refused, TooMany
from slantways.shelf.shelves import Shelf
from slantways.shuffle import shuffles as module
from slantways.shuffle.shuffles import (
    MAX_SHUFFLES, Shuffle, is_steady, named_table, shuffle_count, shuffles, way_of_wishes,
)
from slantways.sort.sorting import sorted_way
from slantways.way.ways import Slope, Way, highest, lowest, ways
from tests.helper import Case, wrong_for, wrong_numbers, wrong_values

SLOPE = Slope(3, 4)
HIGH = Shuffle(SLOPE, (4, 2, 0))
LOW = Shuffle.of_names(Way(SLOPE, "rsrsrss"), (2, 3, 1))
SIDES = [(1, 1), (1, 2), (1, 7), (2, 1), (5, 1), (2, 3), (3, 2), (2, 7), (3, 4), (4, 3), (3, 5), (5, 2), (5, 3), (4, 5)]
LONG = 10 ** 60


def members_at(window, most):
    """The dict of w(i) for all i up to a number in size, continued step by step from the window."""
    rises = len(window)
    told = {at + 1: member for at, member in enumerate(window)}
    for place in range(rises + 1, most + 1):
        told[place] = told[place - rises] + rises
    for place in range(0, -most - 1, -1):
        told[place] = told[place + rises] - rises
    return told


def own_windows(slope, most):
    """All steady windows with members up to a number in size, ascending, by the words of [11.1]."""
    rises, steps = slope.rises, slope.steps
    found = []
    for start in product(range(-most, most + 1), repeat=rises - 1):
        window = start + (rises * (rises + 1) // 2 - sum(start),)
        if len({member % rises for member in window}) == rises:
            told = members_at(window, 2 * rises + steps)
            if all(told[place + steps] > told[place] for place in range(-rises, rises + 1)):
                found.append(window)
    return found


def own_names(way):
    """All names of the rises of a way that ascend in each run."""
    ends, start = [], 0
    for run in way.runs:
        ends.append((start, start + run))
        start += run
    return [names for names in permutations(range(1, start + 1))
            if all(list(names[x:y]) == sorted(names[x:y]) for x, y in ends)]


def own_names_of(way):
    """Names of the rises of a way in their order, which ascend in each run."""
    return tuple(range(1, way.slope.rises + 1))


class ExamplesTest(Case):
    def test_high(self):
        shown = [HIGH.wishes, HIGH.named_way.text, HIGH.names, HIGH.room, HIGH.pairs, HIGH(4), HIGH.undone(4),
                 str(HIGH)]
        self.assertEqual(shown, [(0, 1, 2), "rrrssss", (1, 2, 3), 3, 0, 7, 1, "shuffle 4 2 0 of 3:4"])

    def test_low(self):
        shown = [LOW.window, LOW.wishes, LOW.room, LOW.pairs, way_of_wishes(SLOPE, (2, 0, 0)).text, list(LOW)]
        self.assertEqual(shown, [(2, 3, 1), (2, 0, 0), 0, 1, "rrssrss", [2, 3, 1]])

    def test_steady(self):
        shown = [is_steady(SLOPE, (1, 2, 3)), is_steady(SLOPE, (3, 2, 1)), is_steady(SLOPE, (-2, 2, 6))]
        self.assertEqual(shown, [True, True, False])

    def test_all(self):
        shown = [shuffle_count(Slope(10, 7)), [one.window for one in shuffles(Slope(2, 3))], named_table(Slope(2, 3))]
        self.assertEqual(shown, [40353607, [(0, 3), (1, 2), (2, 1)], {(0, 0): 1, (0, 1): 1, (1, 0): 1}])


class WindowsTest(Case):
    def test_all_windows(self):
        for rises, steps, most in ((1, 4, 3), (2, 1, 9), (2, 3, 9), (2, 7, 12), (3, 1, 9), (3, 2, 9), (3, 4, 12),
                                   (3, 5, 13), (4, 3, 9)):
            slope = Slope(rises, steps)
            own = own_windows(slope, most)
            found = list(shuffles(slope))
            self.assertEqual([one.window for one in found], own)
            self.assertTrue(all(one == Shuffle(slope, one.window) for one in found))
            self.assertEqual(len(own), steps ** (rises - 1))

    def test_is_steady(self):
        for rises, steps in ((2, 3), (3, 2), (3, 4)):
            slope = Slope(rises, steps)
            own = set(own_windows(slope, 12))
            for window in product(range(-3, 8), repeat=rises):
                self.assertIs(is_steady(slope, window), window in own)
                if window not in own:
                    self.raised(InvalidShuffle, Shuffle, slope, window)

    def test_members(self):
        for rises, steps in SIDES:
            for one in shuffles(Slope(rises, steps)):
                told = members_at(one.window, 70)
                for place in range(-70, 71):
                    self.same(one(place), told[place])
                    self.same(one.undone(told[place]), place)
                for number in (LONG // 3, -LONG // 7):
                    self.assertEqual((one.undone(one(number)), one(one.undone(number))), (number, number))
                for number in (LONG - 1, 1 - LONG):
                    self.assertEqual(one(number) - number, one(number % rises) - number % rises)
                    self.assertEqual(one.undone(number) - number, one.undone(number % rises) - number % rises)

    def test_ways_and_names(self):
        for rises, steps in SIDES:
            slope = Slope(rises, steps)
            for one in shuffles(slope):
                above = [place for place, member in members_at(one.window, 90).items() if member > 0]
                least = min(above)
                gaps = tuple(x for x in range(max(1, 2 * slope.half)) if x + least not in above)
                shelf = Shelf(slope, gaps)
                self.assertEqual(one.named_way, shelf.way())
                self.assertEqual(-least, len(gaps) - 1)
                back = [one.undone(name) - least for name in range(1, rises + 1)]
                self.assertEqual(tuple(sorted(back)), shelf.rise_makers)
                levels = [x for letter, x in zip(one.named_way.text, one.named_way.levels) if letter == "r"]
                self.same(one.names, tuple(back.index(level) + 1 for level in levels))

    def test_names(self):
        for rises, steps in SIDES:
            slope = Slope(rises, steps)
            windows = []
            for way in ways(slope):
                own = own_names(way)
                many = factorial(rises)
                for run in way.runs:
                    many //= factorial(run)
                self.assertEqual(len(own), many)
                for names in own:
                    one = Shuffle.of_names(way, names)
                    self.assertEqual((one.named_way, one.names, one.slope), (way, names, slope))
                    windows.append(one.window)
            self.assertEqual(sorted(windows), [one.window for one in shuffles(slope)])
            self.same(shuffle_count(slope), len(windows))

    def test_counts(self):
        for rises, steps in SIDES:
            slope = Slope(rises, steps)
            for one in shuffles(slope):
                told = [one.undone(place) for place in range(1, rises + 40 * rises)]
                wishes = tuple(sum(1 for other in told[at + 1:] if 0 < told[at] - other < steps)
                               for at in range(rises))
                self.same(one.wishes, wishes)
                self.same(one.room, room(one.named_way))
                self.same(one.pairs, slope.half - sum(wishes))
                self.assertEqual(one.pairs, room(way_of_wishes(slope, one.wishes)))

    def test_ascending_names(self):
        for rises, steps in SIDES:
            for way in ways(Slope(rises, steps)):
                levels = [level for letter, level in zip(way.text, way.levels) if letter == "r"]
                names = tuple(sorted(levels).index(level) + 1 for level in levels)
                one = Shuffle.of_names(way, names)
                self.assertEqual(way_of_wishes(way.slope, one.wishes), sorted_way(way))
                self.assertEqual((one.room, one.pairs), counts_of(way))

    def test_pairs_by_names(self):
        for rises, steps in SIDES:
            for one in shuffles(Slope(rises, steps)):
                way = one.named_way
                named = [(level, name) for level, name in zip(
                    [level for letter, level in zip(way.text, way.levels) if letter == "r"], one.names)]
                turned = sum(1 for x, k in named for y, m in named if x > y and k < m and x - y < steps)
                self.assertEqual(one.pairs, counts_of(way)[1] - turned)


class TablesTest(Case):
    def test_named_table(self):
        for rises, steps in SIDES + [(3, 8), (2, 59)]:
            slope = Slope(rises, steps)
            own = {}
            for one in shuffles(slope):
                own[one.room, one.pairs] = own.get((one.room, one.pairs), 0) + 1
            table = named_table(slope)
            self.assertEqual(table, own)
            self.assertEqual(list(table), sorted(own))
            for x, y in table:
                self.assertEqual(table[x, y], table.get((y, x)))

    def test_power(self):
        for rises, steps in SIDES:
            slope = Slope(rises, steps)
            spread = [0] * (2 * slope.half + 1)
            for (x, y), many in named_table(slope).items():
                spread[slope.half + x - y] += many
            power = (1,)
            for _ in range(rises - 1):
                power = times(power, (1,) * steps)
            self.assertEqual(tuple(spread), power)

    def test_no_shared_state(self):
        table = named_table(SLOPE)
        table.clear()
        self.assertEqual(sum(named_table(SLOPE).values()), 16)


class ObjectTest(Case):
    def test_lengths_and_text(self):
        for rises, steps in SIDES:
            for one in shuffles(Slope(rises, steps)):
                self.assertEqual((len(one), list(one), list(one)), (rises, list(one.window), list(one.window)))
                self.same(str(one), f"shuffle {' '.join(map(str, one.window))} of {rises}:{steps}")

    def test_equal(self):
        self.assertIs(HIGH == Shuffle(Slope(3, 4), (4, 2, 0)), True)
        self.assertIs(HIGH != Shuffle(Slope(3, 4), (4, 2, 0)), False)
        self.assertIs(HIGH == LOW, False)
        self.assertIs(Shuffle(SLOPE, (1, 2, 3)) == Shuffle(Slope(3, 5), (1, 2, 3)), False)
        for value in wrong_for(Shuffle):
            self.assertIs(HIGH == value, False)
            self.assertIs(HIGH != value, True)

    def test_never_changes(self):
        for name in ("slope", "window", "named_way", "names", "wishes", "room", "pairs"):
            with self.assertRaises(AttributeError):
                setattr(HIGH, name, None)
        for call in (lambda: HIGH < LOW, lambda: HIGH + LOW, lambda: HIGH[0], lambda: ~HIGH):
            self.raised(TypeError, call)


class WrongTest(Case):
    def test_slopes(self):
        for value in wrong_for(Slope):
            self.raised(InvalidSlope, Shuffle, value, None)
            self.raised(InvalidSlope, is_steady, value, None)
            self.raised(InvalidSlope, next, shuffles(value))
            self.raised(InvalidSlope, shuffle_count, value)
            self.raised(InvalidSlope, named_table, value)
        self.assertTrue(inspect.isgeneratorfunction(shuffles))

    def test_common_part(self):
        for rises, steps in ((2, 2), (4, 6), (60, 60)):
            kept = ("common", gcd(rises, steps))
            slope = Slope(rises, steps)
            self.raised_number(Refused, kept, is_steady, slope, None)
            self.raised_number(Refused, kept, next, shuffles(slope))
            self.raised_number(Refused, kept, shuffle_count, slope)
            self.raised_number(Refused, kept, named_table, slope)
            # The common part is refused behind what is no window.
            window = tuple(range(1, rises + 1))
            self.raised_number(Refused, kept, Shuffle, slope, window)
            self.raised(InvalidShuffle, Shuffle, slope, window[::-1] + (1,))
            self.raised(InvalidShuffle, Shuffle, slope, list(window))
            self.raised_number(Refused, kept, Shuffle.of_names, lowest(slope), own_names_of(lowest(slope)))
            self.raised(InvalidShuffle, Shuffle.of_names, lowest(slope), window[:-1])
            self.raised(InvalidShuffle, Shuffle.of_names, lowest(slope), window[:-1] + (rises + 1,))
            self.raised(InvalidShuffle, Shuffle.of_names, highest(slope), window[::-1])
        self.raised_number(Refused, ("common", 2), Shuffle, Slope(2, 2), (-99, 102))
        self.raised(InvalidShuffle, Shuffle, Slope(2, 2), (1 - 2 * LONG, 2 + 2 * LONG))

    def test_windows(self):
        wrong = [(), (1,), (1, 2), (1, 2, 3, 4), [1, 2, 3], (1, 2, True), (True, 2, 3), (0, 0, 6), (1, 1, 4), (1, 2, 4),
                 (0, 1, 2), (-2, 2, 6), (6, -2, 2), ("1", "2", "3"), (1, 2, None), (LONG, 2, 4 - LONG), (1, 2, (3,)),
                 "123", None, {1: 2}]
        for value in wrong + wrong_values():
            self.raised(InvalidShuffle, Shuffle, SLOPE, value)
            self.assertIs(is_steady(SLOPE, value), False)
        self.assertIs(is_steady(Slope(1, 4), (1,)), True)
        self.assertIs(is_steady(Slope(1, 4), (True,)), False)
        self.assertIs(is_steady(SLOPE, (10 ** 99, 2, 4 - 10 ** 99)), False)

    def test_names(self):
        way = Way(SLOPE, "rrsrsss")
        self.assertEqual(Shuffle.of_names(way, (1, 3, 2)).names, (1, 3, 2))
        wrong = [(2, 1, 3), (3, 1, 2), (1, 2), (1, 2, 3, 4), (0, 1, 2), (1, 2, 4), (1, 1, 2), [1, 2, 3], (1, True, 2),
                 (True, 2, 3), ("1", "2", "3"), (LONG, 1, 2), (1, 2, None), None, "123"]
        for value in wrong + wrong_values():
            self.raised(InvalidShuffle, Shuffle.of_names, way, value)
        for value in wrong_for(Way):
            self.raised(InvalidWay, Shuffle.of_names, value, None)

    def test_numbers(self):
        for value in wrong_numbers():
            self.raised_number(InvalidNumber, value, HIGH, value)
            self.raised_number(InvalidNumber, value, HIGH.undone, value)

    def test_limits(self):
        self.same(MAX_SHUFFLES, 5000)
        for rises, steps in ((3, 59), (4, 17), (13, 2)):
            self.assertEqual(next(shuffles(Slope(rises, steps))).slope.rises, rises)
        for rises, steps in ((4, 19), (14, 3), (15, 2), (59, 60)):
            slope = Slope(rises, steps)
            self.raised_number(TooMany, 5000, next, shuffles(slope))
            self.raised_number(TooMany, 5000, named_table, slope)
            self.assertEqual(shuffle_count(slope), steps ** (rises - 1))
        with patch.object(module, "MAX_SHUFFLES", 16):
            self.assertEqual(len(list(shuffles(SLOPE))), 16)
            self.assertEqual(sum(named_table(SLOPE).values()), 16)
            self.raised_number(TooMany, 16, next, shuffles(Slope(3, 5)))
            self.raised_number(TooMany, 16, named_table, Slope(3, 5))

    def test_long_sides(self):
        for rises, steps in ((60, 1), (1, 60)):
            slope = Slope(rises, steps)
            self.assertEqual([one.window for one in shuffles(slope)], [tuple(range(1, rises + 1))])
            self.assertEqual(named_table(slope), {(0, 0): 1})
        one = Shuffle.of_names(lowest(Slope(59, 60)), tuple(range(59, 0, -1)))
        self.assertEqual((one.room, one.named_way), (0, lowest(Slope(59, 60))))
        self.assertEqual(Shuffle(Slope(59, 60), one.window).names, tuple(range(59, 0, -1)))


if __name__ == "__main__":
    unittest.main()
