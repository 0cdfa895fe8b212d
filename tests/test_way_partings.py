"""Promises [12.3] to [12.6] and [7.7]: the partings of ways."""
import inspect
import unittest
from math import comb, gcd
from unittest.mock import patch

from slantways.count.tables import at_turn, quotient
from slantways.errors import InvalidNumber, InvalidParting, InvalidSlope, InvalidWay, Refused, TooMany
from slantways.parting import partings as module
from slantways.parting.partings import (
    MAX_PARTED, Parting, block_count, kept, parting_of, partings, turned_way, way_of_parting,
)
from slantways.way.ways import Slope, Way, highest, lowest, way_at, way_count, ways
from tests.helper import Case, levels_of, wrong_for, wrong_numbers
from tests.test_partings import is_crossed, own_partings

SLOPE = Slope(2, 5)
FLAT = [(1, 2), (1, 7), (2, 3), (2, 5), (2, 7), (2, 9), (3, 4), (3, 5), (3, 7), (3, 8), (4, 5), (4, 7), (5, 6), (5, 7)]
STEEP = [(1, 1), (3, 2), (5, 4), (7, 1), (60, 59)]
LISTED = [Slope(10, 11), Slope(59, 60), Slope(7, 60), Slope(4, 49)]


def own_blocks(way):
    """The blocks of the parting of a way, by the words of [12.3]."""
    rises, steps, text = way.slope.rises, way.slope.steps, way.text
    levels = levels_of(rises, steps, text) + [0]
    lots = [set(range(1, steps))]
    for foot in range(1, len(text)):
        if text[foot - 1:foot + 1] == "sr":
            level = levels[foot]
            end = next(at for at in range(foot, len(text))
                       if text[at] == "s" and levels[at] > level and levels[at + 1] < level)
            inside = set(range(text[:foot].count("s") + 1, text[:end].count("s") + 1))
            lots = [part for lot in lots for part in (lot & inside, lot - inside) if part]
    return tuple(sorted(tuple(sorted(lot)) for lot in lots))


class ExamplesTest(Case):
    def test_all(self):
        shown = [[str(parting_of(way)) for way in ways(SLOPE)], [str(one) for one in partings(SLOPE)]]
        self.assertEqual(shown, [["1 2 3 4", "1 4|2 3", "1 2|3 4"], ["1 2|3 4", "1 2 3 4", "1 4|2 3"]])

    def test_turned(self):
        one = parting_of(Way(SLOPE, "rsrssss"))
        shown = [one.blocks, turned_way(Way(SLOPE, "rsrssss"), 1).text, way_of_parting(SLOPE, one).text,
                 [kept(SLOPE, many) for many in range(5)], [block_count(SLOPE, many) for many in range(4)]]
        self.assertEqual(shown, [((1, 4), (2, 3)), "rssrsss", "rsrssss", [3, 1, 3, 1, 3], [0, 1, 2, 0]])

    def test_no_way(self):
        self.raised_number(Refused, ("no way",), way_of_parting, SLOPE, Parting(4, ((1,), (2, 3), (4,))))


class PartingsTest(Case):
    def test_blocks(self):
        for rises, steps in FLAT:
            slope = Slope(rises, steps)
            seen = []
            for way in ways(slope):
                parting = parting_of(way)
                self.assertEqual((parting.size, parting.blocks), (steps - 1, own_blocks(way)))
                # Each run of rises stands behind one step less than the least point of a block says.
                behind = {way.text[:at].count("s") for at, letter in enumerate(way.text) if letter == "r"}
                self.assertEqual({block[0] - 1 for block in parting}, behind)
                self.assertEqual(len(parting), len(way.runs))
                seen.append(parting.blocks)
            self.assertEqual(len(set(seen)), way_count(slope))
            self.assertEqual([one.blocks for one in partings(slope)], sorted(seen))

    def test_long_ways(self):
        for rises, steps in ((59, 60), (1, 60), (31, 60), (7, 60)):
            slope = Slope(rises, steps)
            count = way_count(slope)
            for way in (highest(slope), lowest(slope), way_at(slope, count // 2), way_at(slope, count // 3)):
                parting = parting_of(way)
                self.assertEqual((parting.size, parting.blocks, len(parting)), (steps - 1, own_blocks(way),
                                                                                len(way.runs)))

    def test_way_of_parting(self):
        for rises, steps in FLAT:
            slope = Slope(rises, steps)
            told = {parting_of(way).blocks: way for way in ways(slope)}
            for blocks in own_partings(steps - 1) if steps < 9 else list(told):
                parting = Parting(steps - 1, blocks)
                if blocks in told:
                    self.assertEqual(way_of_parting(slope, parting), told[blocks])
                else:
                    self.raised_number(Refused, ("no way",), way_of_parting, slope, parting)
        for size in (1, 3, 5, 60):
            parting = Parting(size, (tuple(range(1, size + 1)),))
            self.raised_number(Refused, ("no way",), way_of_parting, SLOPE, parting)

    def test_block_counts(self):
        for rises, steps in FLAT:
            slope = Slope(rises, steps)
            sizes = [len(parting_of(way)) for way in ways(slope)]
            for many in range(rises + 4):
                self.same(block_count(slope, many), sizes.count(many))
        for many in (0, 60, 10 ** 60 - 1):
            self.assertEqual(block_count(Slope(59, 60), many), 0)
        total = sum(block_count(Slope(59, 60), many) for many in range(60))
        self.assertEqual(total, way_count(Slope(59, 60)))
        self.assertEqual(block_count(Slope(59, 60), 30), comb(59, 30) * comb(59, 29) // 59)


class TurnsTest(Case):
    def test_closed(self):
        for rises, steps in FLAT:
            slope = Slope(rises, steps)
            told = {parting_of(way).blocks: way for way in ways(slope)}
            for way in ways(slope):
                for many in list(range(-3, steps + 2)) + [10 ** 60 - 1, 1 - 10 ** 60]:
                    turned = parting_of(way).turned_by(many)
                    self.assertIn(turned.blocks, told)
                    self.assertEqual(turned_way(way, many), told[turned.blocks])

    def test_kept(self):
        for rises, steps in FLAT:
            slope = Slope(rises, steps)
            found = list(partings(slope))
            for many in range(-steps, 2 * steps):
                order = (steps - 1) // gcd(many, steps - 1)
                number = sum(1 for one in found if one.turned_by(many) == one)
                self.same(kept(slope, many), number)
                self.assertEqual(at_turn(slope, order), number)

    def test_quotient(self):
        for rises, steps in FLAT + [(7, 60), (6, 59)]:
            slope = Slope(rises, steps)
            for turn in range(1, steps):
                if (steps - 1) % turn == 0:
                    order = (steps - 1) // turn
                    number = at_turn(slope, order)
                    self.assertEqual(kept(slope, turn), number)
                    if order > 1:
                        self.assertEqual(number, comb(turn + rises // order, turn))
            self.assertEqual(sum(quotient(slope)), kept(slope, 0))

    def test_long(self):
        slope = Slope(59, 60)
        self.assertEqual([kept(slope, 0), kept(slope, 59), kept(slope, -118)], [way_count(slope)] * 3)
        self.assertEqual([kept(slope, 1), kept(slope, 10 ** 60 - 1)], [2, 2])
        self.assertEqual(kept(Slope(31, 60), 1), 1)


class ClosedTest(Case):
    def test_all_partings(self):
        for steps in range(2, 8):
            slope = Slope(steps - 1, steps)
            self.assertEqual([one.blocks for one in partings(slope)], sorted(own_partings(steps - 1)))
        for rises, steps in ((1, 3), (2, 5), (3, 5), (3, 7), (4, 7), (5, 7)):
            self.assertLess(way_count(Slope(rises, steps)), len(own_partings(steps - 1)))

    def test_joined_blocks(self):
        for rises, steps in FLAT:
            told = {one.blocks for one in partings(Slope(rises, steps))}
            for blocks in told:
                for one in blocks:
                    for other in blocks:
                        rest = [block for block in blocks if block not in (one, other)]
                        joined = tuple(sorted(one + other))
                        if one < other and not any(is_crossed(joined, block) for block in rest):
                            self.assertIn(tuple(sorted(rest + [joined])), told)

    def test_split_blocks(self):
        # A parting of a way, of which one block is split without a crossing, can be that of no way.
        told = {one.blocks for one in partings(SLOPE)}
        self.assertIn(((1, 2), (3, 4)), told)
        self.assertNotIn(((1,), (2,), (3, 4)), told)


class WrongTest(Case):
    def test_slopes(self):
        self.assertTrue(inspect.isgeneratorfunction(partings))
        for value in wrong_for(Slope):
            self.raised(InvalidSlope, way_of_parting, value, None)
            self.raised(InvalidSlope, next, partings(value))
            self.raised(InvalidSlope, block_count, value, None)
            self.raised(InvalidSlope, kept, value, None)
        for value in wrong_for(Way):
            self.raised(InvalidWay, parting_of, value)
            self.raised(InvalidWay, turned_way, value, None)

    def test_partings(self):
        for value in wrong_for(Parting):
            for slope in (SLOPE, Slope(2, 4), Slope(3, 2), Slope(59, 60)):
                self.raised(InvalidParting, way_of_parting, slope, value)

    def test_numbers(self):
        for value in wrong_numbers():
            for slope in (SLOPE, Slope(2, 4), Slope(3, 2)):
                self.raised_number(InvalidNumber, value, turned_way, highest(slope), value)
                self.raised_number(InvalidNumber, value, kept, slope, value)
                self.raised_number(InvalidNumber, value, block_count, slope, value)
        self.raised_number(InvalidNumber, -1, block_count, Slope(2, 4), -1)

    def refused(self, reason, slope):
        """Check that each function refuses a slope with a reason."""
        one = Parting(4, ((1, 2, 3, 4),))
        self.raised_number(Refused, reason, parting_of, highest(slope))
        self.raised_number(Refused, reason, way_of_parting, slope, one)
        self.raised_number(Refused, reason, next, partings(slope))
        self.raised_number(Refused, reason, turned_way, highest(slope), 1)
        self.raised_number(Refused, reason, block_count, slope, 0)
        self.raised_number(Refused, reason, kept, slope, 0)

    def test_common_part(self):
        for rises, steps in ((2, 4), (4, 2), (2, 2), (60, 60), (30, 60)):
            self.refused(("common", gcd(rises, steps)), Slope(rises, steps))

    def test_steep(self):
        for rises, steps in STEEP:
            self.refused(("steep",), Slope(rises, steps))

    def test_limit(self):
        self.same(MAX_PARTED, 5000)
        for slope in LISTED:
            one = Parting(4, ((1, 2, 3, 4),))
            self.raised_number(TooMany, 5000, way_of_parting, slope, one)
            self.raised_number(TooMany, 5000, next, partings(slope))
            self.raised_number(TooMany, 5000, turned_way, highest(slope), 1)
            self.assertEqual(len(parting_of(highest(slope))), 1)
            self.assertEqual(block_count(slope, 1), 1)
            self.assertEqual(kept(slope, 0), way_count(slope))
        self.assertEqual(len(list(partings(Slope(9, 10)))), 4862)
        with patch.object(module, "MAX_PARTED", 7):
            self.assertEqual(len(list(partings(Slope(3, 5)))), 7)
            self.raised_number(TooMany, 7, next, partings(Slope(4, 5)))
            self.raised_number(TooMany, 7, turned_way, highest(Slope(4, 5)), 0)


if __name__ == "__main__":
    unittest.main()
