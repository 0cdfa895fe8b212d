"""Promises [11.4] and [11.5]: rows of wishes, and the shuffles that they tell."""
import inspect
import unittest
from itertools import product
from math import gcd
from unittest.mock import patch

from slantways.errors import InvalidOperation, InvalidSlope, Refused, TooMany
from slantways.shuffle import shuffles as module
from slantways.shuffle.shuffles import Shuffle, is_wishes, shuffle_of, shuffles, way_of_wishes, wish_rows
from slantways.way.ways import Slope
from tests.helper import Case, wrong_for, wrong_values

SLOPE = Slope(3, 4)
SIDES = [(1, 1), (1, 5), (2, 1), (5, 1), (2, 3), (3, 2), (2, 7), (3, 4), (4, 3), (3, 5), (5, 2), (5, 3), (4, 5)]


def own_rows(rises, steps):
    """All rows of wishes, ascending, by the words of [11.4]."""
    found = []
    for row in product(range(steps), repeat=rises):
        if all(rises * number <= steps * at for at, number in enumerate(sorted(row))):
            found.append(row)
    return found


class ExamplesTest(Case):
    def test_rows(self):
        shown = [is_wishes(SLOPE, (2, 1, 0)), is_wishes(SLOPE, (2, 2, 0)), way_of_wishes(SLOPE, (2, 0, 0)).text,
                 shuffle_of(SLOPE, (0, 1, 2)) == Shuffle(SLOPE, (4, 2, 0)), list(wish_rows(Slope(2, 3)))]
        self.assertEqual(shown, [True, False, "rrssrss", True, [(0, 0), (0, 1), (1, 0)]])


class RowsTest(Case):
    def test_all_rows(self):
        for rises, steps in SIDES:
            slope = Slope(rises, steps)
            own = own_rows(rises, steps)
            self.assertEqual(list(wish_rows(slope)), own)
            self.assertEqual(len(own), steps ** (rises - 1))
            self.assertEqual(sorted(one.wishes for one in shuffles(slope)), own)

    def test_is_wishes(self):
        for rises, steps in SIDES:
            if rises < 5:
                own = own_rows(rises, steps)
                for row in product(range(-1, steps + 2), repeat=rises):
                    self.assertIs(is_wishes(Slope(rises, steps), row), row in own)

    def test_ways(self):
        for rises, steps in SIDES:
            slope = Slope(rises, steps)
            for row in wish_rows(slope):
                way = way_of_wishes(slope, row)
                behind = [way.text[:at].count("s") for at, letter in enumerate(way.text) if letter == "r"]
                self.assertEqual(behind, sorted(row))
                self.assertEqual(way.slope, slope)

    def test_shuffles(self):
        for rises, steps in SIDES:
            slope = Slope(rises, steps)
            found = {one.wishes: one for one in shuffles(slope)}
            self.assertEqual(len(found), steps ** (rises - 1))
            for row in wish_rows(slope):
                self.assertEqual(shuffle_of(slope, row), found[row])
                self.assertEqual(shuffle_of(slope, row).wishes, row)

    def test_long_lists(self):
        for rises, steps in ((3, 59), (4, 17), (13, 2), (2, 59), (7, 4)):
            slope = Slope(rises, steps)
            rows = list(wish_rows(slope))
            self.assertEqual(len(rows), steps ** (rises - 1))
            self.assertEqual(rows, sorted(rows))
            for row in rows[::1500]:
                self.assertEqual(shuffle_of(slope, row).wishes, row)

    def test_long_sides(self):
        for rises, steps in ((60, 1), (1, 60), (1, 1)):
            slope = Slope(rises, steps)
            self.assertEqual(list(wish_rows(slope)), [(0,) * rises])
            self.assertEqual(shuffle_of(slope, (0,) * rises).window, tuple(range(1, rises + 1)))
            self.assertIs(is_wishes(slope, (0,) * (rises - 1) + (1,)), False)
        row = tuple(range(59))
        self.assertIs(is_wishes(Slope(59, 60), row), True)
        self.assertEqual(way_of_wishes(Slope(59, 60), row).text, "rs" * 59 + "s")
        self.assertIs(is_wishes(Slope(60, 59), tuple(range(60))), False)


class WrongTest(Case):
    def test_slopes(self):
        for value in wrong_for(Slope):
            self.raised(InvalidSlope, is_wishes, value, None)
            self.raised(InvalidSlope, way_of_wishes, value, None)
            self.raised(InvalidSlope, shuffle_of, value, None)
            self.raised(InvalidSlope, next, wish_rows(value))
        self.assertTrue(inspect.isgeneratorfunction(wish_rows))

    def test_common_part(self):
        for rises, steps in ((2, 2), (4, 6), (60, 60)):
            kept = ("common", gcd(rises, steps))
            slope = Slope(rises, steps)
            self.raised_number(Refused, kept, is_wishes, slope, None)
            self.raised_number(Refused, kept, next, wish_rows(slope))
            for call in (way_of_wishes, shuffle_of):
                # The common part is refused behind what is no row of wishes, and ahead of too many windows.
                self.raised_number(Refused, kept, call, slope, (0,) * rises)
                self.raised(InvalidOperation, call, slope, (steps,) * rises)
                self.raised(InvalidOperation, call, slope, None)
        self.raised_number(Refused, ("common", 2), shuffle_of, Slope(2, 2), (1, 0))

    def test_rows(self):
        wrong = [(), (0,), (0, 0), (0, 0, 0, 0), [0, 0, 0], (0, 0, True), (False, 0, 0), (-1, 0, 0), (0, 0, 3),
                 (2, 2, 0), (1, 1, 1), (0, 0, 10 ** 60), (0, 0, "0"), (0, 0, None), "000", None, {0: 0}]
        for value in wrong + wrong_values():
            self.assertIs(is_wishes(SLOPE, value), False)
            self.raised(InvalidOperation, way_of_wishes, SLOPE, value)
            self.raised(InvalidOperation, shuffle_of, SLOPE, value)
            self.raised(InvalidOperation, shuffle_of, Slope(59, 60), value)

    def test_limits(self):
        for rises, steps in ((4, 19), (14, 3), (15, 2), (59, 60)):
            slope = Slope(rises, steps)
            self.raised_number(TooMany, 5000, next, wish_rows(slope))
            self.raised_number(TooMany, 5000, shuffle_of, slope, (0,) * rises)
            self.assertIs(is_wishes(slope, (0,) * rises), True)
            self.assertEqual(way_of_wishes(slope, (0,) * rises).text, "r" * rises + "s" * steps)
        with patch.object(module, "MAX_SHUFFLES", 16):
            self.assertEqual(len(list(wish_rows(SLOPE))), 16)
            self.assertEqual(shuffle_of(SLOPE, (0, 0, 0)).wishes, (0, 0, 0))
            self.raised_number(TooMany, 16, next, wish_rows(Slope(3, 5)))
            self.raised_number(TooMany, 16, shuffle_of, Slope(3, 5), (0, 0, 0))


if __name__ == "__main__":
    unittest.main()
