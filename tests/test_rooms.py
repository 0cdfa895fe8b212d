"""Promises [9.1] to [9.5] and [9.7] to [9.9], and the class Room."""
import unittest
from itertools import product

from slantways.errors import (
    InvalidField, InvalidOperation, InvalidRoom, InvalidShelf, InvalidSlope, Refused, TooMany,
)
from slantways.room.fields import Field, across, plain_rows
from slantways.room.rooms import MAX_WIDTH, Room, is_room, meet, rooms
from slantways.shelf.shelves import Shelf
from slantways.way.ways import Slope
from tests.helper import Case, wrong_for, wrong_values
from tests.room_helper import (
    F2, F3, F9, SMALL, all_spans, is_own_room, moved, order_of, own_rooms, pairing, series_product, span, width_of,
)

A, B = Slope(2, 3), Slope(3, 4)
ONE, OTHER, WHOLE = Room(F2, A, ((1, 0),)), Room(F2, A, ((1, 1),)), Room(F2, A, ((0, 1), (1, 1)))
NONE = Room(F3, Slope(1, 4), ())
WIDE = [Slope(2, 25), Slope(25, 2), Slope(5, 7), Slope(7, 5), Slope(3, 13), Slope(4, 9)]
TOO_WIDE = [Slope(2, 27), Slope(6, 7), Slope(3, 14), Slope(60, 59), Slope(4, 11)]
SOME = [(field, slope, list(rooms(field, slope))) for field, slope in SMALL]


def no_rows(field, width):
    """Values that are no tuples of at most 60 rows of a width."""
    zero = (0,) * width
    wrong = [[zero], (list(zero),), (zero + (0,),), (zero,) * 61, ("0" * width,), (None,), ((True,) + zero[1:],),
             ((field.size,) + zero[1:],), ((-1,) + zero[1:],), ((10 ** 60,) + zero[1:],), ((1,) + zero[1:], zero[1:])]
    return wrong + [value for value in wrong_values() if value != ()]


class ExamplesTest(Case):
    def test_rooms(self):
        shown = [OTHER.basis, OTHER.orders, OTHER.shelf.gaps, OTHER.numbers, WHOLE.basis, WHOLE.numbers, len(WHOLE),
                 str(OTHER)]
        self.assertEqual(shown, [((1, 1),), (0,), (1,), (1,), ((1, 0), (0, 1)), (), 2,
                                 "room of 2:3 over 2, 1 gaps"])

    def test_operations(self):
        shown = [ONE + OTHER == WHOLE, (1, 1) in OTHER, WHOLE.holds(ONE), OTHER.own_maps() == ONE,
                 OTHER.dual() == OTHER]
        self.assertEqual(shown, [True] * 5)

    def test_numbers(self):
        deep = Room.with_numbers(F3, Shelf(B, (1, 2, 5)), (2, 0, 1))
        shown = [deep.basis, deep.numbers, Room.made_by(F3, B, ((1, 1, 2, 0, 0, 0),)) == deep,
                 is_room(F3, B, ((1, 0, 0, 0, 0, 0),))]
        basis = ((1, 1, 2, 0, 0, 0), (0, 0, 0, 1, 0, 1), (0, 0, 0, 0, 1, 1))
        self.assertEqual(shown, [basis, (2, 0, 1), True, False])

    def test_order(self):
        self.raised_number(Refused, ("order",), Room.made_by, F2, A, ((0, 1),))


class AllRoomsTest(Case):
    def test_is_room(self):
        for field, slope in SMALL:
            width = width_of(slope)
            for rows in all_spans(field, width):
                found = is_own_room(field, slope, rows)
                self.assertIs(is_room(field, slope, rows), found)
                # The same span, told by other rows, and by rows of zeros besides.
                more = tuple(rows[::-1]) + ((0,) * width,) + tuple(rows)
                self.assertIs(is_room(field, slope, more), found)
                if found:
                    self.assertEqual(Room(field, slope, more).basis, rows)
                else:
                    self.raised(InvalidRoom, Room, field, slope, more)

    def test_properties(self):
        for field, slope, found in SOME:
            width = width_of(slope)
            self.assertEqual(sorted(room.basis for room in found), sorted(own_rooms(field, slope)))
            for room in found:
                orders = {order_of(row) for row in span(field, width, room.basis)} - {None}
                gaps = tuple(sorted(set(range(width)) - orders))
                self.assertEqual((room.field, room.slope), (field, slope))
                self.same(room.orders, tuple(sorted(orders)))
                self.assertEqual(room.shelf, Shelf(slope, gaps))
                self.assertEqual(plain_rows(field, width, room.basis), room.basis)
                self.same(str(room), f"room of {slope} over {field.size}, {len(gaps)} gaps")
                self.same(len(room), width - len(gaps))
                self.assertEqual(room, Room(field, slope, room.basis))

    def test_maker_rows(self):
        for field, slope, found in SOME:
            width = width_of(slope)
            for room in found:
                by_order = {order_of(row): row for row in room.basis}
                makers = [maker for maker in room.shelf.rise_makers if maker < width]
                for maker in makers:
                    others = [at for at, element in enumerate(by_order[maker]) if element != 0 and at != maker]
                    self.assertEqual(by_order[maker][maker], 1)
                    self.assertTrue(all(at > maker and at in room.shelf.gaps for at in others))
                rows = [moved(by_order[maker], many) for maker in makers for many in range(0, width, slope.rises)]
                self.assertEqual(plain_rows(field, width, tuple(rows)), room.basis)

    def test_numbers(self):
        for field, slope, found in SOME:
            seen = set()
            for room in found:
                by_order = {order_of(row): row for row in room.basis}
                makers, gaps, steps = room.shelf.rise_makers, room.shelf.gaps, slope.steps
                places = [(x, g) for x in makers for g in gaps if g > x and g + steps not in gaps]
                self.same(room.numbers, tuple(by_order[x][g] for x, g in places))
                again = Room.with_numbers(field, room.shelf, room.numbers)
                self.assertEqual((again, again.basis), (room, room.basis))
                seen.add((gaps, room.numbers))
            self.assertEqual(len(seen), len(found))

    def test_members(self):
        for field, slope, found in SOME:
            width = width_of(slope)
            for room in found[:40]:
                rows = span(field, width, room.basis)
                for row in product(field.members, repeat=width):
                    self.assertIs(row in room, row in rows)
        for value in wrong_values() + [(True, True), (1, 1, 0), [1, 1], (1,), (2, 0), ("1", "1"), "11"]:
            self.assertIs(value in WHOLE, False)
        self.assertEqual([() in NONE, (0,) in NONE, 0 in NONE], [True, False, False])


class OperationsTest(Case):
    def test_made_by(self):
        for field, slope, found in SOME:
            width = width_of(slope)
            if field.size ** width <= 64:
                rooms_with_rows = [(room, span(field, width, room.basis)) for room in found]
                for row in product(field.members, repeat=width):
                    if width > 0 and row[0] == 0:
                        self.raised_number(Refused, ("order",), Room.made_by, field, slope, (row, row))
                        continue
                    made = Room.made_by(field, slope, (row,))
                    self.assertIn(row, made)
                    for room, rows in rooms_with_rows:
                        self.assertEqual(room.holds(made), row in rows)
            for room in found:
                self.assertEqual(Room.made_by(field, slope, room.basis), room)

    def test_made_by_two_rows(self):
        for slope in WIDE:
            width = width_of(slope)
            row, more = (1,) * width, (0,) * (width // 2) + (2,) * (width - width // 2)
            room = Room.made_by(F3, slope, (row, more))
            self.assertTrue(row in room and more in room)
            self.assertEqual(room, Room.made_by(F3, slope, (row,)) + Room.made_by(F3, slope, (more, row)))
            self.assertTrue(room.holds(Room.made_by(F3, slope, (row,))))
        self.raised_number(Refused, ("order",), Room.made_by, F2, A, ())

    def test_pairs_of_rooms(self):
        for field, slope, found in SOME:
            width = width_of(slope)
            rows_of = [(room, span(field, width, room.basis)) for room in found[:12] + found[-12:]]
            for one, rows in rows_of:
                for other, more in rows_of:
                    self.assertIs(one.holds(other), more <= rows)
                    self.assertEqual(one + other, Room(field, slope, one.basis + other.basis))
                    common = meet(one, other)
                    self.assertEqual(plain_rows(field, width, common), common)
                    self.assertEqual(span(field, width, common), rows & more)
                    for row in common:
                        for side in (slope.rises, slope.steps):
                            self.assertIn(moved(row, side), rows & more)
                    self.assertIs(one == other, rows == more)
                    self.assertIs(one != other, rows != more)

    def test_by_row(self):
        for field, slope, found in SOME:
            width = width_of(slope)
            rows = [row for row in product(field.members, repeat=width) if row[:1] != (0,)]
            for room in found[:20]:
                own = span(field, width, room.basis)
                for row in rows[:5] + rows[-5:]:
                    times = room.by_row(row)
                    self.assertEqual(span(field, width, times.basis), {series_product(field, one, row) for one in own})
                    self.assertEqual(times.shelf, room.shelf)

    def test_own_maps(self):
        for field, slope, found in SOME:
            width = width_of(slope)
            for room in found[:15] + found[-5:]:
                rows = span(field, width, room.basis)
                own = {row for row in product(field.members, repeat=width)
                       if all(series_product(field, row, one) in rows for one in room.basis)}
                maps = room.own_maps()
                self.assertEqual(span(field, width, maps.basis), own)
                self.assertIn(((1,) + (0,) * width)[:width], maps)
                self.assertTrue(all(series_product(field, z, y) in own for z in maps.basis for y in maps.basis))

    def test_dual(self):
        for field, slope, found in SOME:
            width = width_of(slope)
            for room in found[:30] + found[-5:]:
                rows = [row for row in product(field.members, repeat=width)
                        if not any(pairing(field, row, one[::-1]) for one in room.basis)]
                # The series begin with these rows; as far as they count they go on in each way.
                least = min([order_of(row) for row in rows if any(row)], default=width)
                ends = list(product(field.members, repeat=least))
                dual = room.dual()
                self.assertEqual(span(field, width, dual.basis), {row[least:] + end for row in rows for end in ends})
                self.assertEqual(dual.shelf, room.shelf.dual())
                self.assertEqual(dual.dual(), room)
                self.assertEqual(len(dual.numbers), len(room.numbers))

    def test_wide_duals(self):
        for slope in WIDE:
            for field in (F2, F9):
                room = Room.made_by(field, slope, ((1,) * width_of(slope),))
                self.assertEqual(room.dual().dual(), room)
                self.assertEqual(room.dual().shelf, room.shelf.dual())
                self.assertTrue(room.own_maps().holds(Room.made_by(field, slope, ((1,) + (0,) * 23,))))
                self.assertEqual(across(field, 24, across(field, 24, room.basis)), room.basis)

    def test_no_width(self):
        for slope in (Slope(1, 1), Slope(1, 60), Slope(60, 1)):
            for rows in ((), ((),), ((),) * 60):
                room = Room(F9, slope, rows)
                shown = [room.basis, room.orders, room.numbers, room.shelf.gaps, len(room), room.dual() == room,
                         room.own_maps() == room, room.by_row(()) == room, room + room == room, meet(room, room)]
                self.assertEqual(shown, [(), (), (), (), 0, True, True, True, True, ()])
                self.assertEqual(Room.made_by(F9, slope, rows), room)
                self.assertEqual(Room.with_numbers(F9, Shelf(slope), ()), room)
            self.raised(InvalidRoom, Room, F9, slope, ((),) * 61)
            self.raised(InvalidRoom, Room, F9, slope, ((0,),))


class WrongTest(Case):
    def test_fields(self):
        for value in wrong_for(Field):
            self.raised(InvalidField, Room, value, None, None)
            self.raised(InvalidField, is_room, value, None, None)
            self.raised(InvalidField, Room.made_by, value, None, None)
            self.raised(InvalidField, Room.with_numbers, value, None, None)

    def test_slopes(self):
        for value in wrong_for(Slope):
            for call in (Room, is_room, Room.made_by):
                self.raised(InvalidSlope, call, F2, value, None)
        for value in wrong_for(Shelf):
            self.raised(InvalidShelf, Room.with_numbers, F2, value, None)
        for call in (Room, is_room, Room.made_by):
            self.raised_number(Refused, ("common", 2), call, F2, Slope(4, 6), None)
            self.raised_number(Refused, ("common", 60), call, F2, Slope(60, 60), None)
            for slope in TOO_WIDE:
                self.raised_number(TooMany, 24, call, F2, slope, None)
        for slope in TOO_WIDE:
            self.raised_number(TooMany, 24, Room.with_numbers, F2, Shelf(slope), None)

    def test_width(self):
        self.same(MAX_WIDTH, 24)
        for slope in WIDE:
            self.assertEqual(len(Room(F2, slope, tuple(moved((1,) + (0,) * 23, at) for at in range(24)))), 24)

    def test_rows(self):
        for field, slope in SMALL[:8]:
            for value in no_rows(field, width_of(slope)):
                self.raised(InvalidRoom, Room, field, slope, value)
                self.assertIs(is_room(field, slope, value), False)
                self.raised(InvalidOperation, Room.made_by, field, slope, value)
        self.assertEqual(Room(F2, A, ((1, 1),) * 60), OTHER)
        self.raised(InvalidRoom, Room, F2, A, ())
        self.raised(InvalidRoom, Room, F2, A, ((0, 1),))

    def test_numbers(self):
        shelf = Shelf(B, (1, 2, 5))
        wrong = [(), (0, 0), (0, 0, 0, 0), [0, 0, 0], (0, 0, 3), (0, True, 0), (False, 0, 0), (-1, 0, 0), "000", None,
                 (10 ** 60, 0, 0), ((0,), 0, 0)]
        for value in wrong + [value for value in wrong_values()]:
            self.raised(InvalidOperation, Room.with_numbers, F3, shelf, value)
        self.raised(InvalidOperation, Room.with_numbers, F3, Shelf(B), (0,))
        self.assertEqual(Room.with_numbers(F3, Shelf(B), ()).numbers, ())

    def test_by_row(self):
        for value in wrong_values() + [(0, 1), (0, 0), (1,), (1, 0, 0), [1, 0], (True, 0), (2, 0), (1, None)]:
            self.raised(InvalidOperation, ONE.by_row, value)
        for value in ((0,), (1,), [], None):
            self.raised(InvalidOperation, NONE.by_row, value)

    def test_other_rooms(self):
        unlike = [Room(F3, A, ((1, 0),)), Room(F2, Slope(3, 2), ((1, 0),)), Room(F2, Slope(2, 5), ((1, 0, 1, 0),
                                                                                               (0, 0, 1, 0)))]
        for other in unlike:
            self.raised(InvalidRoom, ONE.holds, other)
            self.raised(InvalidRoom, lambda: ONE + other)
            self.raised(InvalidRoom, meet, ONE, other)
            self.assertIs(ONE == other, False)
        for value in wrong_for(Room):
            self.raised(InvalidRoom, ONE.holds, value)
            self.raised(TypeError, lambda: ONE + value)
            self.raised(TypeError, lambda: value + ONE)
            self.assertIs(ONE == value, False)
            self.assertIs(ONE != value, True)

    def test_objects(self):
        for name in ("field", "slope", "basis", "orders", "shelf", "numbers"):
            with self.assertRaises(AttributeError):
                setattr(ONE, name, None)
        for call in (lambda: ONE < OTHER, lambda: ONE | OTHER, lambda: list(ONE), lambda: ONE[0], lambda: -ONE):
            self.raised(TypeError, call)
        self.assertEqual((ONE.basis, OTHER.basis), (((1, 0),), ((1, 1),)))


class FalseStatementsTest(Case):
    def test_rooms_that_meet_in_no_row_of_order_0(self):
        self.assertEqual(meet(ONE, OTHER), ())

    def test_meet_is_no_room(self):
        self.assertIs(is_room(F2, A, meet(ONE, OTHER)), False)


if __name__ == "__main__":
    unittest.main()
