"""The main statements [0.13] to [0.20] over the whole program, and [10.5] of shuffles."""
import unittest
from itertools import product
from math import gcd

from slantways.count.counts import counts_of, free_numbers, level_pairs, pairs, paired_squares, room
from slantways.count.tables import CountTable, at_turn, quotient, times
from slantways.desk.desk import Desk
from slantways.errors import Refused
from slantways.heap.heaps import Heap, heap_of, heaps, mean, shelf_of
from slantways.parting.partings import Parting, kept, parting_of, partings, turned_way, way_of_parting
from slantways.room.chains import (
    chain_number, chain_total, chains, chains_on, is_order_row, order_rows, wish_row,
)
from slantways.room.fields import Field
from slantways.room.rooms import Room, factor, meet, room_number, rooms, rooms_on
from slantways.shelf.shelves import Shelf, shelves
from slantways.shuffle.shuffles import Shuffle, named_table, shuffle_of, shuffles
from slantways.sort.sorting import Scale, sorted_way, unsorted_way
from slantways.text.strings import read_value, write_value
from slantways.way.turns import turn_to, turned, way_of, ways_among, words_of
from slantways.way.ways import Slope, Way, highest, way_at, way_count, way_index, ways
from tests.helper import Case, all_words, gap_sets, small_sides

SIDES = [(rises, steps) for rises, steps in small_sides(9) if gcd(rises, steps) == 1]
NARROW = [(2, 2, 3), (3, 2, 3), (2, 3, 2), (9, 2, 3), (2, 3, 4), (3, 3, 4), (2, 4, 3), (2, 3, 5), (4, 2, 5), (2, 1, 6),
          (3, 6, 1), (2, 2, 7)]


def is_own_way(slope, text):
    """Whether a text stays on one side of the line."""
    return all(text[:at].count("r") * slope.steps >= text[:at].count("s") * slope.rises for at in range(len(text)))


class FoundAgainTest(Case):
    def test_ways(self):
        for rises, steps in SIDES:
            slope = Slope(rises, steps)
            for way in ways(slope):
                shelf = Shelf.of_way(way)
                again = [way_at(slope, way_index(way)), way.exchanged().exchanged(), shelf.way(),
                         shelf_of(slope, heap_of(shelf)).way(), shelf.exchanged().way().exchanged(),
                         Shelf.of_makers(slope, shelf.makers).way(), shelf.dual().dual().way(),
                         unsorted_way(sorted_way(way)), sorted_way(unsorted_way(way)), read_value(write_value(way)),
                         read_value(write_value(shelf)).way(), next(rooms_on(Field(2), shelf)).shelf.way()]
                if rises < steps:
                    again.append(way_of_parting(slope, parting_of(way)))
                    again.append(turned_way(turned_way(way, 2), -2))
                self.assertEqual(again, [way] * len(again))

    def test_words(self):
        for rises, steps in SIDES:
            slope = Slope(rises, steps)
            for word in all_words(rises, steps):
                place, way = way_of(slope, word)
                turns = [turned(slope, word, number) for number in range(rises + steps)]
                own = [text for text in turns if text in words_of(way) and is_own_way(slope, text)]
                self.assertEqual((own, turns[place]), ([way.text], way.text))
                self.assertEqual((ways_among(slope, word), turn_to(way, word)), ((way,), place))

    def test_shuffles(self):
        for rises, steps in SIDES:
            slope = Slope(rises, steps)
            if steps ** (rises - 1) < 300:
                for one in shuffles(slope):
                    again = [Shuffle.of_names(one.named_way, one.names), shuffle_of(slope, one.wishes),
                             read_value(write_value(one)), Shuffle(slope, one.window)]
                    self.assertEqual(again, [one] * 4)

    def test_on_a_desk(self):
        for rises, steps in SIDES:
            slope = Slope(rises, steps)
            desk = Desk(slope)
            desk.put("x", highest(slope))
            for name, rule, other in (("y", "sorted", "x"), ("z", "unsorted", "y"), ("v", "dual", "x"),
                                      ("w", "dual", "v")):
                desk.follow(name, rule, other)
            desk.promise("z", ("same", "x", "z"))
            desk.promise("w", ("same", "x", "w"))
            for way in ways(slope):
                desk.put("x", way)
                self.assertEqual([desk.kept_way("z"), desk.kept_way("w")], [way, way])
                self.assertEqual(room(desk.kept_way("y")), pairs(way))


class StatementsTest(Case):
    def test_closed_lots_and_heaps(self):
        for rises, steps in SIDES:
            slope = Slope(rises, steps)
            if (rises - 1) * (steps - 1) <= 12:
                found = [Shelf.of_way(way) for way in ways(slope)]
                self.assertEqual(sorted(shelf.gaps for shelf in found), sorted(gap_sets(rises, steps)))
                self.assertEqual(sorted(heap_of(shelf).rows for shelf in found),
                                 sorted(heap.rows for heap in heaps(slope)))

    def test_room_and_pairs(self):
        for rises, steps in SIDES:
            for way in ways(Slope(rises, steps)):
                half, shelf = way.slope.half, Shelf.of_way(way)
                told = {len(paired_squares(way)), half - len(level_pairs(way)), half - sum(free_numbers(shelf))}
                self.assertEqual((told, room(way)), ({pairs(way)}, len(shelf.gaps)))
                self.assertEqual(room(sorted_way(way)), pairs(way))

    def test_sorting_is_one_to_one(self):
        for weights in ({"a": 1, "b": -1}, {"a": 2, "b": -3}, {"a": 0, "b": 1, "c": -2}):
            scale = Scale(weights)
            for many in range(6):
                texts = ["".join(letters) for letters in product(scale.letters, repeat=many)]
                self.assertEqual(sorted(scale.sorted_text(text) for text in texts), texts)

    def test_tables(self):
        for rises, steps in SIDES:
            slope = Slope(rises, steps)
            table = CountTable(slope)
            counts = [counts_of(way) for way in ways(slope)]
            self.assertEqual(sorted(counts), sorted((y, x) for x, y in counts))
            self.assertEqual((table.is_even(), table.spread()), (True, quotient(slope)))

    def test_rooms_and_chains(self):
        for size, rises, steps in NARROW:
            field, slope = Field(size), Slope(rises, steps)
            found = list(rooms(field, slope))
            by_ways = [size ** (slope.half - pairs(way)) for way in ways(slope)]
            by_room = [many * size ** (slope.half - x) for x, y, many in CountTable(slope)]
            by_shelves = [size ** sum(free_numbers(shelf)) for shelf in shelves(slope)]
            told = {room_number(field, slope), len(found), sum(by_ways), sum(by_room), sum(by_shelves)}
            self.assertEqual(len(told), 1)
            by_wishes = [size ** sum(one.wishes) for one in shuffles(slope)]
            by_table = [many * size ** (slope.half - y) for (x, y), many in named_table(slope).items()]
            told = {chain_total(field, slope), sum(chain_number(one) for one in found), sum(by_wishes), sum(by_table),
                    sum(len(list(chains(one))) for one in found)}
            self.assertEqual(len(told), 1)

    def test_chains_by_shuffles(self):
        for size, rises, steps in NARROW:
            field, slope = Field(size), Slope(rises, steps)
            by_shelf = {shelf.gaps: [] for shelf in shelves(slope)}
            for one in shuffles(slope):
                undone = [one.undone(name) for name in range(1, rises + 1)]
                row = tuple(place - min(undone) for place in undone)
                shelf = Shelf.of_way(one.named_way)
                # The order rows of the shelves are the shuffles, undone and moved.
                self.assertIs(is_order_row(shelf, row), True)
                self.assertEqual(wish_row(slope, row), one.wishes)
                by_shelf[shelf.gaps].append((row, size ** sum(one.wishes)))
            for shelf in shelves(slope):
                told = by_shelf[shelf.gaps]
                self.assertEqual(sorted(row for row, _ in told), list(order_rows(shelf)))
                self.assertEqual(sum(many for _, many in told), chains_on(field, shelf))

    def test_partings(self):
        for rises, steps in SIDES:
            if rises < steps:
                slope = Slope(rises, steps)
                found = {one.blocks for one in partings(slope)}
                for many in range(1, steps):
                    turned_all = [Parting(steps - 1, blocks).turned_by(many).blocks for blocks in found]
                    self.assertEqual(set(turned_all), found)
                    same = sum(1 for blocks in found if Parting(steps - 1, blocks).turned_by(many).blocks == blocks)
                    told = {same, kept(slope, many), at_turn(slope, (steps - 1) // gcd(many, steps - 1))}
                    self.assertEqual(told, {same})

    def test_equal_calls(self):
        slope = Slope(3, 5)
        for call in (CountTable, quotient, named_table, lambda one: [list(shelf.gaps) for shelf in shelves(one)],
                     lambda one: [str(way) for way in ways(one)], lambda one: [str(one) for one in partings(one)]):
            self.assertEqual(call(slope), call(Slope(3, 5)))
        polynomial = (1, 2, 3)
        self.assertEqual((times(polynomial, polynomial), polynomial), ((1, 4, 10, 12, 9), (1, 2, 3)))


class FalseStatementsTest(Case):
    """What [0.20] calls false, with an input that shows it."""

    def test_heaps_of_shelves(self):
        slope = Slope(3, 5)
        less, more = Shelf(slope, (1, 2)), Shelf(slope, (2,))
        self.assertTrue(more.holds(less))
        self.assertFalse(heap_of(less).holds(heap_of(more)) or heap_of(more).holds(heap_of(less)))

    def test_dual_shelf(self):
        shelf = Shelf(Slope(3, 5), (1, 2, 4))
        self.assertEqual([room(shelf.way()), room(shelf.dual().way())], [3, 2])

    def test_turned_rules_of_sorting(self):
        def order(level):
            return (0, -level) if level < 0 else (1, -level)

        weights = {"a": 1, "b": -1}
        texts = ["".join(letters) for letters in product("ab", repeat=4)]
        for ahead, later_first in ((True, True), (False, False), (False, True)):
            sorted_texts = []
            for text in texts:
                sums = [sum(weights[letter] for letter in text[:at + 1 - ahead]) for at in range(4)]
                places = sorted(range(4), key=lambda at: (order(sums[at]), -at if later_first else at))
                sorted_texts.append("".join(text[place] for place in places))
            is_one_to_one = len(set(sorted_texts)) == len(texts)
            self.assertEqual(is_one_to_one, (ahead, later_first) == (False, True))

    def test_sorting_twice(self):
        self.assertNotEqual(Scale({"a": 1, "b": 2, "c": -2}).rounds("abcabc"), 2)
        way = Way(Slope(3, 4), "rrsrsss")
        self.assertNotEqual(sorted_way(sorted_way(way)), way)

    def test_rooms_of_one_shelf(self):
        shelf = Shelf(Slope(4, 5), (1, 3))
        one, other = (Room.with_numbers(Field(2), shelf, numbers) for numbers in ((0, 0, 0), (0, 0, 1)))
        self.assertIsNone(factor(one, other))

    def test_common_rows(self):
        one, other = (Room(Field(2), Slope(2, 3), (row,)) for row in ((1, 0), (1, 1)))
        self.assertFalse(any(row[0] != 0 for row in meet(one, other)))

    def test_two_makers(self):
        self.assertGreater(max(len(shelf.makers) for shelf in shelves(Slope(3, 4))), 2)

    def test_hooks(self):
        self.assertEqual([Heap((2,)).is_without(6), Heap((2,)).is_without(2)], [True, False])

    def test_turns_of_one_text(self):
        self.assertEqual(len(ways_among(Slope(3, 3), "srsrrs")), 2)

    def test_partings_of_ways(self):
        slope = Slope(2, 5)
        split = Parting(4, ((1,), (2,), (3, 4)))
        self.assertIn("1 2|3 4", [str(one) for one in partings(slope)])
        self.assertTrue(split.is_finer(Parting(4, ((1, 2), (3, 4)))))
        self.raised_number(Refused, ("no way",), way_of_parting, slope, split)

    def test_exchanged_way(self):
        way = highest(Slope(3, 4))
        self.assertNotEqual(pairs(way), room(way.exchanged()))

    def test_mean(self):
        self.assertEqual(mean(Slope(2, 3)), (1, 2))
        self.assertEqual(way_count(Slope(2, 3)), 2)


if __name__ == "__main__":
    unittest.main()
