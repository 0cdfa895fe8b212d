"""Promises [10.1] to [10.4] and [10.8], the class Chain, and the step tables."""
import inspect
import unittest
from itertools import islice, product

from slantways.errors import InvalidChain, InvalidRoom
from slantways.room.chains import Chain, chains, is_chain, step_sizes, step_table
from slantways.room.fields import plain_rows
from slantways.room.rooms import Room, rooms
from slantways.shelf.shelves import Shelf
from slantways.way.ways import Slope
from tests.helper import Case, wrong_for, wrong_values
from tests.room_helper import F2, F3, F4, F9, all_spans, combine, order_of, span, width_of

A = Slope(2, 3)
WHOLE, OTHER = Room(F2, A, ((1, 0), (0, 1))), Room(F2, A, ((1, 1),))
SMALL = [(F2, A), (F3, A), (F9, A), (F3, Slope(3, 2)), (F2, Slope(3, 4)), (F2, Slope(4, 3)), (F4, Slope(2, 5)),
         (F3, Slope(1, 4)), (F2, Slope(4, 1)), (F3, Slope(3, 1)), (F9, Slope(1, 1))]
WIDE = [Slope(2, 25), Slope(25, 2), Slope(5, 7), Slope(7, 5), Slope(13, 3), Slope(9, 4)]


def some_rooms(most=8):
    """Some rooms over each of the small slopes."""
    found = []
    for field, slope in SMALL:
        all_rooms = list(rooms(field, slope))
        found.extend(all_rooms[::max(1, len(all_rooms) // most)])
    return found


def lower_series(room, length):
    """The lower rows of the rise makers [10.1], cut to a length."""
    width = width_of(room.slope)
    found = []
    for maker in room.shelf.rise_makers:
        row = next((row for row in room.basis if order_of(row) == maker), None)
        series = (0,) * maker + (1,) if maker >= width else row
        found.append((series + (0,) * length)[:length])
    return found


def own_coordinates(room, series):
    """The coordinates of a series, found among all rows of elements, by the words of [10.1]."""
    field, rises, width = room.field, room.slope.rises, width_of(room.slope)
    lower = lower_series(room, len(series))
    for found in product(field.members, repeat=rises):
        rest = [field.minus(x, y) for x, y in zip(series, combine(field, len(series), found, lower))]
        # What is left is a power of t times a series of the room.
        if not any(rest[:rises]) and tuple(rest[rises:rises + width]) in room:
            yield found


def own_led(field, table, row):
    """The coordinates to which a step table leads some."""
    return combine(field, len(row), row, table)


def own_chains(room):
    """The spaces of all chains on a room, ascending, found among all spans."""
    field, rises, table = room.field, room.slope.rises, step_table(room)
    lots = [((), set(product(field.members, repeat=rises)))]
    for many in range(rises - 1, 0, -1):
        planes = []
        for rows in all_spans(field, rises, [many]):
            rows_in = span(field, rises, rows)
            if all(own_led(field, table, row) in rows_in for row in rows):
                planes.append((rows, rows_in))
        lots = [(spaces + (rows,), rows_in) for spaces, outer in lots for rows, rows_in in planes if rows_in <= outer]
    return sorted(spaces for spaces, _ in lots)


def sets_of(chain):
    """The coordinates of all sets of a chain, as plain rows."""
    rises = chain.room.slope.rises
    units = tuple(tuple(int(at == place) for at in range(rises)) for place in range(rises))
    return (units,) + chain.spaces + ((),)


class ExamplesTest(Case):
    def test_tables(self):
        shown = [step_table(WHOLE), step_table(OTHER), step_sizes(WHOLE), step_sizes(OTHER)]
        self.assertEqual(shown, [((0, 0), (0, 0)), ((0, 1), (0, 0)), (1, 1), (2,)])

    def test_chains(self):
        shown = [[chain.spaces for chain in chains(WHOLE)], [chain.orders for chain in chains(WHOLE)],
                 [chain.orders for chain in chains(OTHER)]]
        self.assertEqual(shown, [[(((0, 1),),), (((1, 0),),), (((1, 1),),)], [(0, 1), (1, 0), (1, 0)], [(0, 3)]])

    def test_turned(self):
        chain = Chain(WHOLE, (((1, 1),),))
        shown = [chain.all_rooms() == (WHOLE, OTHER, WHOLE), chain.turned().room == OTHER, chain.turned().spaces,
                 chain.turned().orders, chain.turned().turned() == chain, str(chain)]
        self.assertEqual(shown, [True, True, (((0, 1),),), (0, 3), True, "chain 1 0 over 2"])

    def test_no_chain(self):
        self.assertIs(is_chain(OTHER, (((1, 0),),)), False)
        self.raised(InvalidChain, Chain, OTHER, (((1, 0),),))


class StepTest(Case):
    def test_tables(self):
        for room in some_rooms():
            rises, steps, width = room.slope.rises, room.slope.steps, width_of(room.slope)
            length = width + rises
            table = step_table(room)
            self.assertEqual((table.__class__, len(table)), (tuple, rises))
            for series, told in zip(lower_series(room, length), table):
                moved = ((0,) * steps + series)[:length]
                self.assertEqual(list(own_coordinates(room, moved)), [told])

    def test_led_series(self):
        for room in some_rooms(4):
            field, steps, length = room.field, room.slope.steps, width_of(room.slope) + room.slope.rises
            lower, table = lower_series(room, length), step_table(room)
            for row in list(product(field.members, repeat=room.slope.rises))[:20]:
                moved = ((0,) * steps + combine(field, length, row, lower))[:length]
                self.assertEqual(list(own_coordinates(room, moved)), [own_led(field, table, row)])

    def test_sizes(self):
        for room in some_rooms(12):
            field, rises, table = room.field, room.slope.rises, step_table(room)
            power = tuple(tuple(int(at == place) for at in range(rises)) for place in range(rises))
            ranks = [rises]
            while ranks[-1] > 0:
                power = tuple(own_led(field, table, row) for row in power)
                ranks.append(len(plain_rows(field, rises, power)))
            lost = [more - less for more, less in zip(ranks, ranks[1:])]
            sizes = step_sizes(room)
            self.assertEqual(sizes, tuple(sorted(sizes, reverse=True)))
            self.assertEqual(sum(sizes), rises)
            self.assertGreaterEqual(min(sizes), 1)
            for k, many in enumerate(lost):
                self.assertEqual(sum(1 for size in sizes if size >= k + 1), many)

    def test_wide(self):
        for slope in WIDE:
            for field in (F2, F9):
                whole = next(rooms(field, slope))
                sizes = step_sizes(whole)
                self.assertEqual((sum(sizes), len(step_table(whole))), (slope.rises, slope.rises))
                # On the room of all series the step table moves by the steps, so the sizes are of steps in the rises.
                rests = [len(range(rest, slope.rises, slope.steps)) for rest in range(min(slope.rises, slope.steps))]
                self.assertEqual(sizes, tuple(sorted(rests, reverse=True)))


class ChainsTest(Case):
    def test_all(self):
        for room in some_rooms():
            found = list(chains(room))
            self.assertEqual([chain.spaces for chain in found], own_chains(room))
            for chain in found:
                self.assertEqual(chain.room, room)
                self.assertEqual(chain, Chain(room, chain.spaces))
                self.assertIs(is_chain(room, chain.spaces), True)

    def test_is_chain(self):
        for room in some_rooms(3):
            rises, field = room.slope.rises, room.field
            if rises in (2, 3) and field.size < 4:
                own = own_chains(room)
                spans = list(all_spans(field, rises))
                for spaces in product(spans, repeat=rises - 1):
                    self.assertIs(is_chain(room, spaces), spaces in own)

    def test_other_rows(self):
        for room in some_rooms(3):
            for chain in islice(chains(room), 5):
                zero = (0,) * room.slope.rises
                spaces = tuple(rows[::-1] + (zero,) + rows for rows in chain.spaces)
                self.assertEqual(Chain(room, spaces), chain)
                self.assertEqual(Chain(room, spaces).spaces, chain.spaces)

    def test_orders(self):
        for room in some_rooms():
            length = width_of(room.slope) + room.slope.rises
            lower = lower_series(room, length)
            for chain in islice(chains(room), 12):
                seen = []
                for rows in sets_of(chain):
                    spanned = span(room.field, room.slope.rises, rows)
                    seen.append({order_of(combine(room.field, length, row, lower)) for row in spanned} - {None})
                orders = [outer - inner for outer, inner in zip(seen, seen[1:])]
                self.assertEqual([set([order]) for order in chain.orders], orders)
                self.assertEqual(sorted(chain.orders), list(room.shelf.rise_makers))
                self.same(str(chain), f"chain {' '.join(map(str, chain.orders))} over {room.field.size}")
                self.same(len(chain), room.slope.rises)

    def test_all_rooms(self):
        for room in some_rooms():
            field, slope, width = room.field, room.slope, width_of(room.slope)
            length = width + 2 * slope.rises
            lower = lower_series(room, length)
            for chain in islice(chains(room), 6):
                found = chain.all_rooms()
                self.assertEqual((len(found), found[0], found[-1]), (slope.rises + 1, room, room))
                for at, (one, rows) in enumerate(zip(found, sets_of(chain))):
                    later = [x + slope.rises for x in chain.orders[:at]]
                    makers = sorted(list(chain.orders[at:]) + later)
                    least = makers[0]
                    # The rise makers of the set tell its shelf, and its series, moved back, are in the room.
                    self.assertEqual(one.shelf.rise_makers, tuple(maker - least for maker in makers))
                    for row in rows:
                        series = combine(field, length, row, lower)
                        self.assertIn(series[least:least + width], one)
                    for series in lower:
                        self.assertIn(((0,) * slope.rises + series)[least:least + width], one)

    def test_turned(self):
        for room in some_rooms():
            rises = room.slope.rises
            for chain in islice(chains(room), 6):
                one = chain
                beside = chain.all_rooms()
                for turn in range(rises):
                    self.assertEqual(one.room, beside[turn])
                    turned = one.turned()
                    start = min(one.orders[1:] + (one.orders[0] + rises,))
                    orders = one.orders[1:] + (one.orders[0] + rises,)
                    self.assertEqual(turned.orders, tuple(order - start for order in orders))
                    self.assertEqual(turned.all_rooms()[:rises], one.all_rooms()[1:])
                    one = turned
                self.assertEqual((one, one.spaces), (chain, chain.spaces))

    def test_wide(self):
        for slope in WIDE:
            for field in (F2, F9):
                for room in (Room.with_numbers(field, Shelf(slope), ()),
                             Room.made_by(field, slope, tuple((1,) * at + (0,) * (24 - at) for at in (3, 9, 20)))):
                    chain = next(chains(room))
                    self.assertEqual(sorted(chain.orders), list(room.shelf.rise_makers))
                    self.assertEqual(chain.turned().room, chain.all_rooms()[1])

    def test_no_width(self):
        for slope in (Slope(1, 1), Slope(1, 60), Slope(60, 1), Slope(59, 1)):
            room = Room(F9, slope, ())
            found = list(chains(room))
            self.assertEqual([chain.orders for chain in found], [tuple(range(slope.rises))])
            chain = found[0]
            self.assertEqual((len(chain), chain.turned(), step_sizes(room)), (slope.rises, chain, (slope.rises,)))
            self.assertEqual(chain.all_rooms(), (room,) * (slope.rises + 1))
            self.assertIs(is_chain(room, chain.spaces), True)
        self.assertEqual(Chain(Room(F2, Slope(1, 60), ()), ()).spaces, ())


class WrongTest(Case):
    def test_rooms(self):
        for value in wrong_for(Room):
            self.raised(InvalidRoom, Chain, value, None)
            self.raised(InvalidRoom, is_chain, value, None)
            self.raised(InvalidRoom, step_table, value)
            self.raised(InvalidRoom, step_sizes, value)
            self.raised(InvalidRoom, next, chains(value))
        self.assertTrue(inspect.isgeneratorfunction(chains))

    def test_spaces(self):
        row = (0, 1)
        wrong = [(), ((),), ((row,), (row,)), [(row,)], ([row],), (([0, 1],),), (((0, 1, 0),),), ((row,) * 61,), ((0, 1),),
                 (((0, True),),), (((0, 2),),), (((0, -1),),), (((1, 0), (0, 1)),), (((0, 0),),), (((1, 0),),),
                 (((10 ** 60, 0),),), ((("0", "1"),),), ((None,),), None, "01"]
        for value in wrong + wrong_values():
            self.raised(InvalidChain, Chain, OTHER, value)
            self.assertIs(is_chain(OTHER, value), False)
        self.assertIs(is_chain(OTHER, ((row,) * 60,)), True)
        room = Room(F2, Slope(1, 4), ())
        for value in wrong + wrong_values():
            self.assertIs(is_chain(room, value), value == ())

    def test_unlike_spaces(self):
        room = next(rooms(F2, Slope(3, 4)))
        right = next(chains(room)).spaces
        self.assertEqual([len(rows) for rows in right], [2, 1])
        self.assertIs(is_chain(room, right), True)
        self.assertIs(is_chain(room, right[::-1]), False)
        self.assertIs(is_chain(room, (right[0], right[0])), False)
        # Each span is steady over this room, but not each one lies in the one ahead of it.
        self.assertIs(is_chain(room, (((0, 1, 0), (0, 0, 1)), ((0, 1, 1),))), True)
        self.assertIs(is_chain(room, (((0, 1, 0), (0, 0, 1)), ((1, 0, 0),))), False)

    def test_objects(self):
        chain, other = Chain(WHOLE, (((1, 1),),)), Chain(WHOLE, (((0, 1),),))
        for name in ("room", "spaces", "orders"):
            with self.assertRaises(AttributeError):
                setattr(chain, name, None)
        self.assertIs(chain == Chain(WHOLE, (((0, 0), (1, 1)),)), True)
        self.assertIs(chain == other, False)
        self.assertIs(chain != other, True)
        self.assertIs(other == Chain(OTHER, (((0, 1),),)), False)
        for value in wrong_for(Chain):
            self.assertIs(chain == value, False)
        for call in (lambda: chain < other, lambda: chain + other, lambda: list(chain), lambda: chain[0]):
            self.raised(TypeError, call)


if __name__ == "__main__":
    unittest.main()
