"""Promises [9.5] to [9.10] over all rooms of slopes, and the functions of slantways.room.rooms."""
import inspect
import unittest
from itertools import islice, product

from slantways.count.counts import counts_of, free_numbers
from slantways.errors import InvalidField, InvalidRoom, InvalidShelf, InvalidSlope, Refused, TooMany
from slantways.room.fields import SIZES, Field
from slantways.room.rooms import Room, factor, free_places, meet, room_number, rooms, rooms_on
from slantways.shelf.shelves import Shelf, shelves
from slantways.way.ways import Slope, ways
from tests.helper import Case, coprime_sides, wrong_for
from tests.room_helper import F2, F3, F9, SMALL, own_rooms, width_of

A, B = Slope(2, 3), Slope(3, 4)
ONE, OTHER, WHOLE = Room(F2, A, ((1, 0),)), Room(F2, A, ((1, 1),)), Room(F2, A, ((0, 1), (1, 1)))
WIDE = [Slope(2, 25), Slope(25, 2), Slope(5, 7), Slope(7, 5), Slope(13, 3), Slope(9, 4)]
TOO_WIDE = [Slope(2, 27), Slope(6, 7), Slope(3, 14), Slope(60, 59)]


class ExamplesTest(Case):
    def test_functions(self):
        shown = [meet(ONE, OTHER), factor(ONE, OTHER), factor(ONE, WHOLE)]
        self.assertEqual(shown, [(), (1, 1), None])

    def test_places(self):
        shown = [free_places(Shelf(A, (1,))), free_places(Shelf(B, (1, 2, 5))), free_places(Shelf(B, (2,))),
                 free_places(Shelf(B))]
        self.assertEqual(shown, [((0, 1),), ((0, 2), (0, 5), (4, 5)), ((0, 2), (1, 2)), ()])

    def test_numbers(self):
        shown = [room_number(F2, A), room_number(F2, B), room_number(F3, B), room_number(F9, A),
                 len(list(rooms(F2, B))), [room.numbers for room in rooms_on(F3, Shelf(A, (1,)))]]
        self.assertEqual(shown, [3, 19, 49, 10, 19, [(0,), (1,), (2,)]])


class FreePlacesTest(Case):
    def test_definition(self):
        for rises, steps in coprime_sides(14) + [(5, 7), (2, 25), (25, 2), (1, 60), (60, 1)]:
            for shelf in shelves(Slope(rises, steps)):
                found = free_places(shelf)
                own = [(x, g) for x in shelf.rise_makers for g in shelf.gaps if g > x and g + steps in shelf]
                self.same(found, tuple(sorted(own)))
                by_maker = tuple(sum(1 for x, _ in found if x == maker) for maker in shelf.rise_makers)
                self.assertEqual(by_maker, free_numbers(shelf))
                self.assertEqual(len(free_places(shelf.dual())), len(found))

    def test_no_gaps(self):
        for slope in WIDE + [Slope(1, 60), Slope(60, 1), Slope(1, 1)]:
            self.assertEqual(free_places(Shelf(slope)), ())


class ListsTest(Case):
    def test_rooms_on(self):
        for field, slope in SMALL:
            own = own_rooms(field, slope)
            for shelf in shelves(slope):
                found = list(rooms_on(field, shelf))
                numbers = [room.numbers for room in found]
                self.assertEqual(numbers, list(product(field.members, repeat=len(free_places(shelf)))))
                self.assertTrue(all(room.shelf == shelf and room.basis in own for room in found))

    def test_rooms(self):
        for field, slope in SMALL:
            found = list(rooms(field, slope))
            self.assertEqual(found, [room for shelf in shelves(slope) for room in rooms_on(field, shelf)])
            self.assertEqual(len({room.basis for room in found}), len(found))
            self.same(room_number(field, slope), len(found))
            for room in found:
                self.assertEqual(len(room), width_of(slope) - len(room.shelf.gaps))

    def test_room_number(self):
        for size in SIZES:
            for rises, steps in coprime_sides(12) + [(1, 60), (60, 1), (5, 7), (25, 2)]:
                slope = Slope(rises, steps)
                number = room_number(Field(size), slope)
                self.same(number, sum(size ** (slope.half - counts_of(way)[1]) for way in ways(slope)))
                self.assertEqual(number, sum(size ** len(free_places(shelf)) for shelf in shelves(slope)))

    def test_more_fields(self):
        for size in SIZES:
            for slope in (Slope(3, 2), Slope(2, 5), Slope(4, 3)):
                found = list(islice(rooms(Field(size), slope), 700))
                self.assertEqual(len(found), min(700, room_number(Field(size), slope)))
                self.assertEqual(len({room.basis for room in found}), len(found))

    def test_wide_slopes(self):
        for slope in WIDE:
            for field in (F2, F9):
                lists = [(shelf, list(islice(rooms_on(field, shelf), 3))) for shelf in shelves(slope)]
                for shelf, found in lists[::7]:
                    for room in found:
                        self.assertEqual(room.shelf, shelf)
                        self.assertEqual(Room(field, slope, room.basis).numbers, room.numbers)

    def test_no_width(self):
        for slope in (Slope(1, 1), Slope(1, 60), Slope(60, 1)):
            self.assertEqual([room.basis for room in rooms(F9, slope)], [()])
            self.assertEqual([room.basis for room in rooms_on(F9, Shelf(slope))], [()])
            self.assertEqual(room_number(F9, slope), 1)
            room = Room(F9, slope, ())
            self.assertEqual((factor(room, room), meet(room, room)), ((), ()))


class FactorTest(Case):
    def test_all_pairs(self):
        for field, slope in SMALL:
            width = width_of(slope)
            rows = [row for row in product(field.members, repeat=width) if row[:1] in ((), (1,))]
            found = list(rooms(field, slope))
            for one in found[::3]:
                reached = [one.by_row(row).basis for row in rows]
                for other in found:
                    row = factor(one, other)
                    if row is None:
                        self.assertNotIn(other.basis, reached)
                    else:
                        self.assertEqual(one.by_row(row), other)
                        self.assertEqual((one.shelf, one.own_maps()), (other.shelf, other.own_maps()))

    def test_no_factor_of_one_shelf(self):
        # Rooms of one shelf do not always become each other by multiplying with a row.
        for shelf, many in ((Shelf(Slope(4, 5), (1, 3)), 3), (Shelf(Slope(3, 7), (1, 2, 5)), 4)):
            one = Room.with_numbers(F2, shelf, (0,) * many)
            other = Room.with_numbers(F2, shelf, (0,) * (many - 1) + (1,))
            self.assertEqual(one.shelf, other.shelf)
            # Rooms that have a factor have equal own maps.
            self.assertNotEqual(one.own_maps(), other.own_maps())
            self.assertIsNone(factor(one, other))
            self.assertIsNone(factor(other, one))


class WrongTest(Case):
    def test_generators(self):
        for call in (rooms, rooms_on):
            self.assertTrue(inspect.isgeneratorfunction(call))
        for value in wrong_for(Field):
            for call in (rooms, rooms_on):
                self.raised(InvalidField, next, call(value, None))
            self.raised(InvalidField, room_number, value, None)
        for value in wrong_for(Slope):
            self.raised(InvalidSlope, next, rooms(F2, value))
            self.raised(InvalidSlope, room_number, F2, value)
        for value in wrong_for(Shelf):
            self.raised(InvalidShelf, next, rooms_on(F2, value))
            self.raised(InvalidShelf, free_places, value)

    def test_slopes(self):
        for call in (lambda slope: next(rooms(F2, slope)), lambda slope: room_number(F2, slope)):
            self.raised_number(Refused, ("common", 2), call, Slope(4, 6))
            self.raised_number(Refused, ("common", 58), call, Slope(58, 58))
            for slope in TOO_WIDE:
                self.raised_number(TooMany, 24, call, slope)
        for slope in TOO_WIDE:
            self.raised_number(TooMany, 24, free_places, Shelf(slope))
            self.raised_number(TooMany, 24, next, rooms_on(F2, Shelf(slope)))

    def test_rooms(self):
        unlike = [Room(F3, A, ((1, 0),)), Room(F2, Slope(3, 2), ((1, 0),)), Room(F9, Slope(1, 4), ())]
        for call in (meet, factor):
            for value in wrong_for(Room):
                self.raised(InvalidRoom, call, value, ONE)
                self.raised(InvalidRoom, call, ONE, value)
                self.raised(InvalidRoom, call, value, value)
            for other in unlike:
                self.raised(InvalidRoom, call, ONE, other)
                self.raised(InvalidRoom, call, other, ONE)


if __name__ == "__main__":
    unittest.main()
