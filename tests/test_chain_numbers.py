"""Promises [10.4] to [10.7] and [10.9]: order rows, wishes, and the numbers of chains."""
import inspect
import unittest
from itertools import islice, permutations
from math import gcd
from unittest.mock import patch

from slantways.errors import (
    InvalidField, InvalidOperation, InvalidRoom, InvalidShelf, InvalidSlope, Refused, TooMany,
)
from slantways.room import chains as module
from slantways.room.chains import (
    MAX_LISTED, chain_number, chain_total, chains, chains_on, is_order_row, order_rows, step_sizes, wish_row,
)
from slantways.room.fields import SIZES, Field
from slantways.room.rooms import Room, room_number, rooms, rooms_on
from slantways.shelf.shelves import Shelf, shelves
from slantways.way.ways import Slope
from tests.helper import Case, coprime_sides, wrong_for, wrong_values
from tests.room_helper import F2, F3, F4, F9

A, B, C = Slope(2, 3), Slope(3, 4), Slope(3, 5)
WHOLE, OTHER = Room(F2, A, ((1, 0), (0, 1))), Room(F2, A, ((1, 1),))
SMALL = [(F2, A), (F9, A), (F3, Slope(3, 2)), (F2, B), (F2, Slope(4, 3)), (F4, Slope(2, 5)), (F2, C), (F3, B),
         (F2, Slope(2, 7)), (F3, Slope(1, 4)), (F2, Slope(4, 1))]
SIDES = [sides for sides in coprime_sides(14) if sides[0] < 7]
TOO_WIDE = [Slope(2, 27), Slope(6, 7), Slope(3, 14), Slope(60, 59)]


def own_order_rows(shelf):
    """All order rows of a shelf, ascending, found among all orders of the rise makers."""
    steps = shelf.slope.steps
    found = []
    for row in permutations(shelf.rise_makers):
        places = {maker: at for at, maker in enumerate(row)}
        if all(places[x] < places[x + steps] for x in row if x + steps in places):
            found.append(row)
    return found


def own_wishes(slope, row):
    """The wishes of a row by the words of [10.5], with the row continued as far as it counts."""
    rises, steps = slope.rises, slope.steps
    turns = (max(row) - min(row)) // rises + 2
    longer = [number + turn * rises for turn in range(turns) for number in row]
    return tuple(sum(1 for other in longer[at + 1:] if 0 < row[at] - other < steps) for at in range(rises))


def own_number(size, sizes):
    """The number of chains by [10.7]."""
    if not sizes:
        return 1
    total = 0
    for step in set(sizes):
        less, more = (sum(1 for one in sizes if one >= k) for k in (step + 1, step))
        rest = list(sizes)
        rest.remove(step)
        if step > 1:
            rest.append(step - 1)
        total += (size ** more - size ** less) // (size - 1) * own_number(size, rest)
    return total


class ExamplesTest(Case):
    def test_numbers(self):
        shown = [chain_number(WHOLE), chain_number(OTHER), chains_on(F2, Shelf(A)), chain_total(F2, A),
                 chain_total(F2, B), chain_total(F3, B), chain_total(F2, Slope(4, 3)), chain_total(F2, C)]
        self.assertEqual(shown, [3, 1, 3, 5, 79, 226, 145, 199])

    def test_order_rows(self):
        shown = [list(order_rows(Shelf(A))), list(order_rows(Shelf(A, (1,)))), wish_row(A, (1, 0)),
                 wish_row(A, (0, 3)), is_order_row(Shelf(A, (1,)), (3, 0))]
        self.assertEqual(shown, [[(0, 1), (1, 0)], [(0, 3)], (1, 0), (0, 1), False])


class OrderRowsTest(Case):
    def test_all(self):
        for rises, steps in SIDES:
            many = 0
            for shelf in shelves(Slope(rises, steps)):
                found = list(order_rows(shelf))
                self.assertEqual(found, own_order_rows(shelf))
                many += len(found)
            self.assertEqual(many, steps ** (rises - 1))

    def test_is_order_row(self):
        for rises, steps in SIDES:
            if rises < 6:
                for shelf in shelves(Slope(rises, steps)):
                    own = own_order_rows(shelf)
                    for row in permutations(shelf.rise_makers):
                        self.assertIs(is_order_row(shelf, row), row in own)
                        self.assertIs(is_order_row(shelf, row[:-1]), False)
                        self.assertIs(is_order_row(shelf, row + row[:1]), False)
                        self.assertIs(is_order_row(shelf, list(row)), False)

    def test_nothing_else_is_one(self):
        shelf = Shelf(A)
        wrong = [(0, 0), (1, 1), (0, True), (False, 1), (0, 1, 3), (0,), (), (0, 3), (0, None), ("0", "1"), [0, 1],
                 (0, -1), (10 ** 70, 0), ((0, 1),)]
        for value in wrong + wrong_values():
            self.assertIs(is_order_row(shelf, value), False)
        self.assertIs(is_order_row(Shelf(Slope(1, 9)), (0,)), True)
        self.assertIs(is_order_row(Shelf(Slope(1, 9)), (False,)), False)

    def test_orders_of_chains(self):
        for field, slope in SMALL:
            for shelf in shelves(slope):
                seen = {}
                for room in rooms_on(field, shelf):
                    for chain in chains(room):
                        self.assertIs(is_order_row(shelf, chain.orders), True)
                        seen[chain.orders] = seen.get(chain.orders, 0) + 1
                self.assertEqual(sorted(seen), own_order_rows(shelf))
                # All rooms of the shelf together have so many chains with each order row.
                for row, many in seen.items():
                    self.assertEqual(many, field.size ** sum(own_wishes(slope, row)))

    def test_long(self):
        shelf = Shelf(Slope(25, 2))
        rows = list(islice(order_rows(shelf), 3))
        self.assertEqual(rows[0], tuple(range(25)))
        self.assertTrue(all(is_order_row(shelf, row) for row in rows))
        self.assertEqual(list(order_rows(Shelf(Slope(60, 1)))), [tuple(range(60))])


class WishesTest(Case):
    def test_own_count(self):
        for rises, steps in SIDES:
            slope = Slope(rises, steps)
            for shelf in shelves(slope):
                for row in islice(order_rows(shelf), 30):
                    self.same(wish_row(slope, row), own_wishes(slope, row))
                    self.assertLessEqual(sum(wish_row(slope, row)), slope.half)

    def test_any_row(self):
        for rises, steps in ((1, 4), (2, 9), (3, 4), (4, 3), (5, 2), (7, 3)):
            slope = Slope(rises, steps)
            for start in (0, -7, 40):
                for rests in islice(permutations(range(rises)), 30):
                    row = tuple(rest + rises * ((at * 5 + start) % 9 - 4) for at, rest in enumerate(rests))
                    self.same(wish_row(slope, row), own_wishes(slope, row))

    def test_far_apart(self):
        self.assertEqual(wish_row(A, (100000, -99999)), own_wishes(A, (100000, -99999)))
        self.assertEqual(wish_row(Slope(2, 25), (99999, -100000)), own_wishes(Slope(2, 25), (99999, -100000)))
        self.assertEqual(wish_row(Slope(1, 60), (100000,)), (0,))

    def test_wrong_rows(self):
        wrong = [(), (0,), (0, 1, 2), (0, 2), (1, 1), (0, True), (100001, 0), (0, -100001), [0, 1], (0, "1"), (0, None),
                 (10 ** 60, 0), ((0, 1),), "01", None]
        for value in wrong:
            self.raised(InvalidOperation, wish_row, A, value)
        for value in wrong_values():
            if value != (3, 4):
                self.raised(InvalidOperation, wish_row, A, value)


class NumbersTest(Case):
    def test_chain_number(self):
        for field, slope in SMALL:
            by_sizes = {}
            for room in rooms(field, slope):
                many = len(list(chains(room)))
                self.same(chain_number(room), many)
                sizes = step_sizes(room)
                self.assertEqual(by_sizes.setdefault(sizes, many), many)
                self.assertEqual(own_number(field.size, sizes), many)

    def test_chains_on(self):
        for field, slope in SMALL:
            total = 0
            for shelf in shelves(slope):
                number = chains_on(field, shelf)
                self.same(number, sum(chain_number(room) for room in rooms_on(field, shelf)))
                by_rows = sum(field.size ** sum(own_wishes(slope, row)) for row in own_order_rows(shelf))
                self.assertEqual(number, by_rows)
                total += number
            self.same(chain_total(field, slope), total)

    def test_more_fields(self):
        for size in SIZES:
            field = Field(size)
            for rises, steps in ((2, 3), (3, 2), (2, 5), (4, 3), (1, 7), (7, 1)):
                slope = Slope(rises, steps)
                if room_number(field, slope) < 300:
                    self.assertEqual(chain_total(field, slope), sum(chain_number(room) for room in rooms(field, slope)))

    def test_wide(self):
        for slope in (Slope(5, 7), Slope(2, 25), Slope(3, 13), Slope(4, 9)):
            for size in (2, 9):
                total = chain_total(Field(size), slope)
                self.assertEqual(total, sum(chains_on(Field(size), shelf) for shelf in shelves(slope)))
        self.assertEqual(chain_number(next(rooms(F2, Slope(25, 2)))), own_number(2, [13, 12]))

    def test_no_width(self):
        for slope in (Slope(1, 1), Slope(1, 60), Slope(60, 1)):
            room = Room(F9, slope, ())
            shown = [chain_number(room), chains_on(F9, Shelf(slope)), chain_total(F9, slope)]
            self.assertEqual(shown, [1, 1, 1])


class LimitsTest(Case):
    def test_limit(self):
        self.same(MAX_LISTED, 5000)
        for slope in (Slope(7, 5), Slope(9, 4), Slope(13, 3), Slope(25, 2)):
            self.raised_number(TooMany, 5000, chain_total, F2, slope)
        self.raised_number(TooMany, 5000, chains_on, F2, Shelf(Slope(13, 3)))
        self.raised_number(TooMany, 5000, chains_on, F2, Shelf(Slope(25, 2)))

    def test_just_at_the_limit(self):
        with patch.object(module, "MAX_LISTED", 16):
            self.assertEqual(chain_total(F2, B), 79)
        with patch.object(module, "MAX_LISTED", 15):
            self.raised_number(TooMany, 15, chain_total, F2, B)
        many = len(list(order_rows(Shelf(B))))
        with patch.object(module, "MAX_LISTED", many):
            self.assertEqual(chains_on(F2, Shelf(B)), chain_number(next(rooms(F2, B))))
        with patch.object(module, "MAX_LISTED", many - 1):
            self.raised_number(TooMany, many - 1, chains_on, F2, Shelf(B))

    def test_long_lists_below_the_limit(self):
        shelf = next(shelf for shelf in shelves(Slope(13, 3)) if shelf.way().runs in ((7, 6), (6, 7)))
        self.assertEqual(len(list(order_rows(shelf))), 1716)
        self.assertGreater(chains_on(F2, shelf), 1716)


class WrongTest(Case):
    def test_fields(self):
        for value in wrong_for(Field):
            self.raised(InvalidField, chains_on, value, None)
            self.raised(InvalidField, chain_total, value, None)

    def test_shelves(self):
        self.assertTrue(inspect.isgeneratorfunction(order_rows))
        for value in wrong_for(Shelf):
            self.raised(InvalidShelf, chains_on, F2, value)
            self.raised(InvalidShelf, is_order_row, value, None)
            self.raised(InvalidShelf, next, order_rows(value))
        for slope in TOO_WIDE:
            shelf = Shelf(slope)
            self.raised_number(TooMany, 24, chains_on, F2, shelf)
            self.raised_number(TooMany, 24, is_order_row, shelf, None)
            self.raised_number(TooMany, 24, next, order_rows(shelf))

    def test_slopes(self):
        for value in wrong_for(Slope):
            self.raised(InvalidSlope, chain_total, F2, value)
            self.raised(InvalidSlope, wish_row, value, None)
        for slope in (Slope(4, 6), Slope(60, 60), Slope(60, 58)):
            kept = ("common", gcd(slope.rises, slope.steps))
            self.raised_number(Refused, kept, chain_total, F2, slope)
            self.raised_number(Refused, kept, wish_row, slope, None)
        for slope in TOO_WIDE:
            self.raised_number(TooMany, 24, chain_total, F2, slope)
            self.raised_number(TooMany, 24, wish_row, slope, None)

    def test_rooms(self):
        for value in wrong_for(Room):
            self.raised(InvalidRoom, chain_number, value)


if __name__ == "__main__":
    unittest.main()
