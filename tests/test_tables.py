"""Promises [7.1], [7.2] and [7.5], and the class CountTable."""
import unittest
from math import gcd
from unittest.mock import patch

from slantways.count import tables
from slantways.count.counts import counts_of
from slantways.count.tables import MAX_WAYS, CountTable, quotient, value_at
from slantways.errors import InvalidNumber, InvalidSlope, Refused, TooMany
from slantways.sort.sorting import sorted_way, unsorted_way
from slantways.way.ways import Slope, Way, way_count, ways
from tests.helper import Case, own_counts, small_sides, way_texts, wrong_for, wrong_numbers, wrong_values

SIDES = [(rises, steps) for rises, steps in small_sides(11) if gcd(rises, steps) == 1]
EDGES = [(1, 1), (1, 60), (60, 1), (2, 59), (59, 2), (3, 59), (4, 47)]
TABLE = CountTable(Slope(3, 4))


def own_table(rises, steps):
    """The dict from rooms and pairs to numbers of ways, counted over all ways."""
    found = {}
    for text in way_texts(rises, steps):
        counts = own_counts(rises, steps, text)
        found[counts] = found.get(counts, 0) + 1
    return found


class ExamplesTest(Case):
    def test_table(self):
        shown = [str(TABLE), list(TABLE), TABLE[1, 1], TABLE.row(1), TABLE.room_sums(), TABLE.pair_sums(), len(TABLE),
                 TABLE.is_even()]
        triples = [(0, 3, 1), (1, 1, 1), (1, 2, 1), (2, 1, 1), (3, 0, 1)]
        self.assertEqual(shown, ["table of 3:4 with 5 ways", triples, 1, (0, 1, 1, 0), (1, 2, 1, 1), (1, 2, 1, 1), 5,
                                 True])

    def test_spread(self):
        shown = [TABLE.spread(), quotient(Slope(3, 4)), TABLE.value(1, 1), TABLE.value(2, 1), TABLE.value(0, 2),
                 quotient(Slope(1, 9))]
        self.assertEqual(shown, [(1, 0, 1, 1, 1, 0, 1), (1, 0, 1, 1, 1, 0, 1), 5, 17, 8, (1,)])

    def test_beyond(self):
        self.raised_number(InvalidNumber, 4, lambda: TABLE[1, 4])


class CountTest(Case):
    def test_own_count(self):
        for rises, steps in SIDES:
            slope = Slope(rises, steps)
            table, own, half = CountTable(slope), own_table(rises, steps), slope.half
            self.assertEqual(list(table), [(x, y, own[x, y]) for x, y in sorted(own)])
            self.assertEqual((len(table), table.half, table.slope), (len(own), half, slope))
            self.same(table.total, sum(own.values()))
            numbers = range(half + 1)
            for x in numbers:
                self.same(table.row(x), tuple(own.get((x, y), 0) for y in numbers))
                self.assertEqual([table[x, y] for y in numbers], list(table.row(x)))
            self.same(table.room_sums(), tuple(sum(own.get((x, y), 0) for y in numbers) for x in numbers))
            self.same(table.pair_sums(), tuple(sum(own.get((x, y), 0) for x in numbers) for y in numbers))
            self.same(str(table), f"table of {rises}:{steps} with {way_count(slope)} ways")

    def test_even(self):
        for rises, steps in SIDES + EDGES:
            table = CountTable(Slope(rises, steps))
            numbers = range(table.half + 1)
            self.assertIs(table.is_even(), True)
            for x in numbers:
                for y in numbers:
                    self.assertEqual(table[x, y], table[y, x])
                    if x + y >= table.half:
                        self.assertEqual(table[x, y], 1 if x + y == table.half else 0)

    def test_no_simple_rule(self):
        for lead in (Way.exchanged, sorted_way, unsorted_way):
            traded = [counts_of(lead(way)) == counts_of(way)[::-1] for way in ways(Slope(3, 4))]
            self.assertIn(False, traded)

    def test_spread_is_the_quotient(self):
        for rises, steps in SIDES + EDGES:
            slope = Slope(rises, steps)
            table = CountTable(slope)
            spread = [0] * (2 * slope.half + 1)
            for x, y, many in table:
                spread[slope.half + x - y] += many
            self.assertEqual(tuple(spread), table.spread())
            self.assertEqual(table.spread(), quotient(slope))
            self.assertEqual(value_at(quotient(slope), 1), way_count(slope))

    def test_value(self):
        for rises, steps in SIDES[::3]:
            table = CountTable(Slope(rises, steps))
            counts = [own_counts(rises, steps, text) for text in way_texts(rises, steps)]
            for q in (-2, -1, 0, 1, 2, 10 ** 20):
                for t in (-3, 0, 1, 5):
                    self.same(table.value(q, t), sum(q ** x * t ** y for x, y in counts))
            self.assertEqual(table.value(0, 1), table.value(1, 0))
        self.assertEqual(CountTable(Slope(1, 7)).value(0, 0), 1)
        self.assertEqual(TABLE.value(0, 0), 0)
        self.assertEqual(TABLE.value(10 ** 60 - 1, 0), (10 ** 60 - 1) ** 3)

    def test_no_squares(self):
        for rises, steps in ((1, 1), (1, 60), (60, 1)):
            table = CountTable(Slope(rises, steps))
            shown = [list(table), table.row(0), table.room_sums(), table.pair_sums(), table.spread(), table.total]
            self.assertEqual(shown, [[(0, 0, 1)], (1,), (1,), (1,), (1,), 1])
            self.raised_number(InvalidNumber, 1, table.row, 1)


class ObjectTest(Case):
    def test_never_changes(self):
        shown = [TABLE.row(2), TABLE.room_sums(), TABLE.spread(), list(TABLE)]
        for name in ("slope", "total", "half"):
            with self.assertRaises(AttributeError):
                setattr(TABLE, name, 1)
        with self.assertRaises(TypeError):
            TABLE[1, 1] = 5
        self.assertEqual([TABLE.row(2), TABLE.room_sums(), TABLE.spread(), list(TABLE)], shown)
        self.assertEqual([list(TABLE), list(TABLE)], [shown[3], shown[3]])

    def test_equal(self):
        self.assertIs(TABLE == CountTable(Slope(3, 4)), True)
        self.assertIs(TABLE != CountTable(Slope(3, 4)), False)
        self.assertIs(TABLE == CountTable(Slope(4, 3)), False)
        for value in wrong_for(CountTable):
            self.assertIs(TABLE == value, False)
            self.assertIs(TABLE != value, True)

    def test_other_operators(self):
        for call in (lambda: TABLE < TABLE, lambda: TABLE + TABLE, lambda: TABLE | TABLE, lambda: -TABLE):
            self.raised(TypeError, call)


class WrongTest(Case):
    def test_slopes(self):
        for value in wrong_for(Slope):
            self.raised(InvalidSlope, CountTable, value)
        for rises, steps in ((2, 2), (4, 6), (60, 60), (10, 15)):
            self.raised_number(Refused, ("common", gcd(rises, steps)), CountTable, Slope(rises, steps))
        for rises, steps in ((10, 11), (60, 59), (4, 49), (60, 7)):
            self.raised_number(TooMany, 5000, CountTable, Slope(rises, steps))

    def test_limit(self):
        self.same(MAX_WAYS, 5000)
        self.assertEqual(CountTable(Slope(9, 10)).total, 4862)
        self.assertEqual(CountTable(Slope(4, 47)).total, 4900)
        with patch.object(tables, "MAX_WAYS", 7):
            self.assertEqual(CountTable(Slope(3, 5)).total, 7)
            self.raised_number(TooMany, 7, CountTable, Slope(4, 5))

    def test_numbers(self):
        for value in wrong_numbers() + [-1, 4]:
            self.raised_number(InvalidNumber, value, TABLE.row, value)
            self.raised_number(InvalidNumber, value, lambda: TABLE[value, 1])
            self.raised_number(InvalidNumber, value, lambda: TABLE[1, value])
            self.raised_number(InvalidNumber, value, lambda: TABLE[value, 99])
        self.raised_number(InvalidNumber, 99, lambda: TABLE[99, -5])

    def test_no_pair(self):
        for value in wrong_values() + [(1, 1, 1), [1, 1], ((1, 1),), 0, 2, slice(0, 2)]:
            if not (isinstance(value, tuple) and len(value) == 2):
                self.raised_number(InvalidNumber, value, lambda: TABLE[value])

    def test_factors(self):
        for value in wrong_numbers():
            self.raised_number(InvalidNumber, value, TABLE.value, value, 1)
            self.raised_number(InvalidNumber, value, TABLE.value, 1, value)
            self.raised_number(InvalidNumber, value, TABLE.value, value, "x")


if __name__ == "__main__":
    unittest.main()
