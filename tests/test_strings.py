"""Promises [13.1] to [13.4], and the functions of slantways.text.strings."""
import unittest
from itertools import product

from slantways.errors import InvalidOperation, ParseError, TooMany
from slantways.heap.heaps import Heap
from slantways.parting.partings import Parting, partings
from slantways.room.fields import SIZES, Field
from slantways.room.rooms import Room, rooms
from slantways.shelf.shelves import Shelf, shelves
from slantways.shuffle.shuffles import Shuffle, shuffle_of, shuffles
from slantways.text.strings import read_value, write_value
from slantways.way.ways import Slope, Way, highest, lowest, ways
from tests.helper import Case, wrong_values
from tests.test_partings import own_partings

SLOPE = Slope(3, 5)
KINDS = (Slope, Way, Shelf, Heap, Room, Shuffle, Parting)


def own_heaps(most_rows, most):
    """All heaps with few rows of few squares."""
    found = []
    for many in range(most_rows + 1):
        found.extend(Heap(rows) for rows in product(range(most, 0, -1), repeat=many) if list(rows) == sorted(rows)[::-1])
    return found


def small_values():
    """Values of all kinds: with some slopes and fields all that there are."""
    found = [Slope(rises, steps) for rises, steps in ((1, 1), (2, 2), (2, 3), (3, 2), (4, 6), (3, 4), (60, 60), (1, 60))]
    for rises, steps in ((1, 1), (2, 2), (2, 3), (2, 4), (3, 4)):
        found.extend(ways(Slope(rises, steps)))
    for rises, steps in ((1, 1), (2, 3), (3, 4), (3, 5), (4, 3), (60, 1)):
        found.extend(shelves(Slope(rises, steps)))
    for rises, steps in ((1, 2), (2, 3), (3, 2), (3, 4), (2, 1)):
        found.extend(shuffles(Slope(rises, steps)))
    for size, rises, steps in ((2, 2, 3), (3, 2, 3), (9, 3, 2), (2, 3, 4), (4, 1, 5), (2, 2, 5)):
        found.extend(rooms(Field(size), Slope(rises, steps)))
    for size in range(1, 6):
        found.extend(Parting(size, blocks) for blocks in own_partings(size))
    return found + own_heaps(3, 4)


VALUES = small_values()
STRINGS = [write_value(value) for value in VALUES]


class ExamplesTest(Case):
    def test_write(self):
        shown = [write_value(SLOPE), write_value(Way(SLOPE, "rsrssrss")), write_value(Shelf(SLOPE, (1, 2, 4))),
                 write_value(Shelf(SLOPE)), write_value(Heap((3, 1, 1))), write_value(Heap())]
        self.assertEqual(shown, ["slope 3:5", "way 3:5 rsrssrss", "shelf 3:5 1 2 4", "shelf 3:5", "heap 3 1 1",
                                 "heap"])

    def test_more(self):
        shown = [write_value(shuffle_of(SLOPE, (0, 2, 1))), write_value(Parting(4, ((1, 3), (2,), (4,)))),
                 read_value("room 2 2:3 1 / 1").numbers]
        self.assertEqual(shown, ["shuffle 3:5 0 2 1", "parting 4 1 2 1 4", (1,)])

    def test_wrong(self):
        for string, index in (("shelf 3:5 2 4", 3), ("shuffle 3:5 2 2 0", 3), ("parting 4 1 2 1 2", 5),
                              ("way 3:5", 2)):
            self.raised_number(ParseError, index, read_value, string)


class RoundTest(Case):
    def test_values(self):
        self.assertEqual(len(set(STRINGS)), len(VALUES))
        for value, string in zip(VALUES, STRINGS):
            again = read_value(string)
            self.same(again, value)
            self.same(write_value(again), string)

    def test_forms(self):
        for value in VALUES:
            string = write_value(value)
            slope = getattr(value, "slope", None)
            if isinstance(value, Slope):
                own = ["slope", str(value)]
            elif isinstance(value, Way):
                own = ["way", str(slope), value.text]
            elif isinstance(value, Shelf):
                own = ["shelf", str(slope)] + [str(gap) for gap in value.gaps]
            elif isinstance(value, Heap):
                own = ["heap"] + [str(row) for row in value.rows]
            elif isinstance(value, Room):
                own = ["room", str(value.field.size), str(slope)] + [str(gap) for gap in value.shelf.gaps]
                own = own + ["/"] + [str(number) for number in value.numbers]
            elif isinstance(value, Shuffle):
                own = ["shuffle", str(slope)] + [str(wish) for wish in value.wishes]
            else:
                least = [value.block_of(point)[0] for point in range(1, value.size + 1)]
                own = ["parting", str(value.size)] + [str(point) for point in least]
            self.same(string, " ".join(own))

    def test_all_slopes(self):
        for rises in range(1, 61):
            for steps in range(1, 61):
                value = read_value(f"slope {rises}:{steps}")
                self.assertEqual(value, Slope(rises, steps))

    def test_long_values(self):
        far = Slope(59, 60)
        values = [highest(far), lowest(far), Shelf.of_way(highest(Slope(13, 12))), Shelf(far), Heap((60,) * 60),
                  Heap((60,)), Heap((1,) * 60), next(shuffles(Slope(13, 2))), next(shuffles(Slope(3, 59))),
                  next(rooms(Field(9), Slope(25, 2))), Room.with_numbers(Field(9), Shelf.of_way(highest(Slope(5, 7))),
                                                                         (8,) * 12),
                  Parting(60, (tuple(range(1, 61)),)), Parting(60, tuple((point,) for point in range(1, 61)))]
        values.extend(partings(Slope(5, 7)))
        for value in values:
            self.assertEqual(read_value(write_value(value)), value)

    def test_all_fields(self):
        for size in SIZES:
            for number in range(10):
                string = f"room {size} 2:3 1 / {number}"
                if number < size:
                    self.assertEqual(read_value(string).numbers, (number,))
                else:
                    self.raised_number(ParseError, 5, read_value, string)


class NearTest(Case):
    def test_near_strings(self):
        # An item is right if some string of a value begins with the items ahead of it and with it.
        whole = dict(zip([tuple(string.split(" ")) for string in STRINGS], VALUES))
        begun = {items[:at] for items in whole for at in range(1, len(items) + 1)}
        pool = ["0", "1", "2", "3", "4", "2:3", "2:2", "3:4", "/", "", "01", "rsrss", "rssrs", "heap", "x", "-1", "+1"]
        seen = set()
        for items in list(whole)[::3]:
            # Only kinds and slopes that are listed whole are looked at, with items that lead to no other ones.
            near = [items[:at] for at in range(len(items))] + [items + (item,) for item in pool]
            near += [items[:at] + (item,) + items[at + 1:] for at in range(len(items)) for item in pool]
            near += [items[:at] + (item,) + items[at:] for at in range(len(items)) for item in pool]
            near += [items[:at] + items[at + 1:] for at in range(len(items))]
            seen.update(near)
        for items in sorted(seen):
            if items and self.is_listed(items):
                self.check(items, whole, begun)
        self.assertGreater(len(seen), 3000)

    def is_listed(self, items):
        """Whether all values with the slope and the field of some items are among those that are listed."""
        kind, rest = items[0], items[1:]
        slopes = {"way": ("2:2", "2:3", "3:4", "1:1"), "shelf": ("2:3", "3:4", "1:1"), "shuffle": ("2:3", "3:4")}
        if kind in slopes:
            return len(rest) == 0 or rest[0] in slopes[kind] or ":" not in rest[0] or rest[0] == "2:2"
        if kind == "room":
            return rest[:2] in ((), ("2", "2:3"), ("3", "2:3"), ("2", "3:4"), ("2", "2:2"), ("3", "2:2"))
        if kind == "heap":
            return len(rest) < 4
        return kind != "slope" or rest[:1] in ((), ("2:3",), ("2:2",), ("3:4",)) or ":" not in rest[0]

    def check(self, items, whole, begun):
        """Check what reading some items makes of them against the list of all values."""
        string = " ".join(items)
        wrong = next((at for at in range(len(items)) if items[:at + 1] not in begun), None)
        if wrong is not None:
            self.raised_number(ParseError, wrong, read_value, string)
        elif items in whole:
            self.assertEqual(read_value(string), whole[items])
        else:
            self.raised_number(ParseError, len(items), read_value, string)


class WrongTest(Case):
    def test_other_values(self):
        for value in wrong_values() + [(Slope(2, 3),), [Way(Slope(2, 3), "rrsss")], "slope 2:3"]:
            if not isinstance(value, KINDS):
                self.raised(InvalidOperation, write_value, value)

    def test_no_strings(self):
        for value in wrong_values():
            if not isinstance(value, str):
                self.raised_number(ParseError, None, read_value, value)

    def wrong_at(self, index, *strings):
        """Check that strings have no right item at an index, or lack one there."""
        for string in strings:
            self.raised_number(ParseError, index, read_value, string)

    def test_words(self):
        self.wrong_at(0, "", " ", " slope 2:3", "Slope 2:3", "slopes 2:3", "field 9", "slope\n2:3", "2:3", "x" * 3000)

    def test_slopes(self):
        self.wrong_at(1, "slope", "slope ", "slope 2:61", "slope 0:3", "slope 02:3", "slope 2:03", "slope 2", "slope 2:",
                      "slope :3", "slope  2:3", "slope 2:3:4", "slope +2:3", "slope 2:3\n", "slope 2.0:3",
                      "shelf 2:2", "shelf 4:6 1", "shuffle 2:2 0 0", "shuffle 60:60", "shelf", "shuffle", "way",
                      "way 2-3 rrsss", "way x", "room", "room 6 2:3 /", "room 1 2:3 /", "room 10 2:3 /", "room 02 2:3 /",
                      "room  2:3", "room x")
        self.wrong_at(2, "slope 2:3 ", "slope 2:3 2:3", "room 2", "room 2 2:2 /", "room 2 ", "room 2 x", "room 9 4:6")
        self.assertEqual(read_value("way 2:2 rsrs"), Way(Slope(2, 2), "rsrs"))

    def test_ways(self):
        self.wrong_at(2, "way 2:3", "way 2:3 ", "way 2:3 srrss", "way 2:3 rrss", "way 2:3 RRSSS", "way 2:3  rrsss",
                      "way 2:3 rrsss\n", "way 2:3 rssrs")
        self.wrong_at(3, "way 2:3 rrsss ", "way 2:3 rrsss rrsss")

    def test_shelves(self):
        self.wrong_at(2, "shelf 3:5 0", "shelf 3:5 3", "shelf 3:5 5", "shelf 3:5 6", "shelf 3:5 4", "shelf 3:5 01",
                      "shelf 3:5 -1", "shelf 3:5 ", "shelf 3:5 1.0", "shelf 3:5 x", "shelf 3:5 /", "shelf 3:5 7",
                      "shelf 1:9 1", "shelf 3:5 " + "9" * 2900, "shelf 3:5 " + "0" * 70)
        self.wrong_at(3, "shelf 3:5 1 1", "shelf 3:5 2 1", "shelf 3:5 1 ", "shelf 3:5 1 8", "shelf 3:5 2 4", "shelf 3:5 2 7")
        self.wrong_at(5, "shelf 3:5 1 2 4 8", "shelf 3:5 1 2 4 /", "shelf 3:5 1 2 4 5")
        self.wrong_at(6, "shelf 3:5 1 2 4 7 8")

    def test_heaps(self):
        self.wrong_at(1, "heap 0", "heap 61", "heap ", "heap 01", "heap -1", "heap x", "heap  1", "heap " + "6" * 2990)
        self.wrong_at(2, "heap 1 2", "heap 60 61", "heap 3 0", "heap 3 ")
        self.wrong_at(61, "heap" + " 1" * 61, "heap" + " 60" * 61, "heap" + " 2" * 60 + " x")
        self.wrong_at(3, "heap 2 2 3" + " 1" * 60)
        self.assertEqual(len(read_value("heap" + " 7" * 60)), 60)

    def test_rooms(self):
        self.wrong_at(3, "room 2 2:3", "room 2 2:3 2", "room 2 2:3 0", "room 2 2:3 ", "room 2 2:3 01")
        self.wrong_at(4, "room 2 2:3 1", "room 2 2:3 1 1", "room 2 2:3 / 0", "room 2 2:3 / ", "room 2 2:3 / /")
        self.wrong_at(5, "room 2 2:3 1 /", "room 2 2:3 1 / 2", "room 2 2:3 1 / ", "room 2 2:3 1 / -1",
                      "room 2 2:3 1 / 01", "room 2 2:3 1 / x", "room 2 2:3 1 / /")
        self.wrong_at(6, "room 2 2:3 1 / 1 0", "room 2 2:3 1 / 1 ")
        self.wrong_at(8, "room 3 3:4 1 2 5 / 0", "room 3 3:4 1 2 5 / 0 3", "room 3 3:4 1 2 5 / 0 /")
        self.assertEqual(read_value("room 3 3:4 1 2 5 / 0 2 1").numbers, (0, 2, 1))

    def test_shuffles(self):
        self.wrong_at(2, "shuffle 3:5", "shuffle 3:5 ", "shuffle 3:5 -1", "shuffle 3:5 4", "shuffle 3:5 00",
                      "shuffle 3:5 x", "shuffle 3:5 " + "1" * 2000, "shuffle 59:60 59", "shuffle 1:4 1")
        self.wrong_at(3, "shuffle 3:5 0", "shuffle 3:5 3 2", "shuffle 3:5 2 2", "shuffle 3:5 0 x")
        self.wrong_at(4, "shuffle 3:5 1 1 2", "shuffle 3:5 0 1 ", "shuffle 3:5 0 1")
        self.wrong_at(5, "shuffle 3:5 0 1 0 0", "shuffle 3:5 0 1 0 ")

    def test_partings(self):
        self.wrong_at(1, "parting", "parting 0", "parting 61", "parting x", "parting 01 1", "parting ", "parting -1")
        self.wrong_at(2, "parting 1", "parting 1 2", "parting 3 0", "parting 3 ", "parting 3 01")
        self.wrong_at(3, "parting 1 1 1", "parting 3 1", "parting 3 1 3", "parting 3 1 0", "parting 1 1 ")
        self.wrong_at(4, "parting 4 1 1 2", "parting 4 1 1 4")
        self.wrong_at(5, "parting 4 1 2 1 2", "parting 4 1 2 1 3", "parting 4 1 2 1", "parting 4 1 2 2 3")

    def test_too_many(self):
        self.raised_number(TooMany, 24, read_value, "room 2 59:60 /")
        self.raised_number(TooMany, 24, read_value, "room 9 6:7 /")
        self.raised_number(TooMany, 24, read_value, "room 2 6:7 1 / 0")
        self.wrong_at(5, "room 2 6:7 1 /")
        self.wrong_at(6, "room 2 6:7 1 / 0 0")
        self.raised_number(TooMany, 5000, read_value, "shuffle 14:3" + " 0" * 14)
        self.raised_number(TooMany, 5000, read_value, "shuffle 59:60" + " 0" * 59)
        self.wrong_at(60, "shuffle 59:60" + " 0" * 58)
        far = Shuffle(Slope(59, 60), tuple(range(1, 60)))
        self.raised_number(TooMany, 5000, read_value, write_value(far))


if __name__ == "__main__":
    unittest.main()
