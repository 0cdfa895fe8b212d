"""Promises [12.1] and [12.2], and the class Parting."""
import unittest
from itertools import combinations

from slantways.errors import InvalidNumber, InvalidParting
from slantways.parting.partings import MAX_POINTS, Parting
from tests.helper import Case, wrong_for, wrong_numbers, wrong_values

ONE = Parting(4, ((1, 4), (2, 3)))
LONG = 10 ** 60


def all_lots(points):
    """All ways to put points into lots, each told by an ascending tuple of ascending tuples."""
    if not points:
        return [()]
    found = []
    first, rest = points[0], points[1:]
    for many in range(len(rest) + 1):
        for others in combinations(rest, many):
            left = [point for point in rest if point not in others]
            found.extend(((first,) + others,) + lots for lots in all_lots(left))
    return found


def is_crossed(one, other):
    """Whether two lots of points cross, by the words of [12.1]."""
    for p, r in combinations(sorted(one), 2):
        inner = [p < q < r for q in other]
        outer = [q < p or q > r for q in other]
        if any(inner) and any(outer):
            return True
    return False


def own_partings(size):
    """The blocks of all partings of so many points."""
    return [lots for lots in all_lots(list(range(1, size + 1)))
            if not any(is_crossed(one, other) for one, other in combinations(lots, 2))]


def own_between(size, blocks):
    """All partings of the points between with the fewest blocks and without a crossing, on the ring of all points."""
    # The point p stands at 2 p, the point behind it at 2 p + 1.
    first = [[2 * point for point in block] for block in blocks]
    found = []
    for lots in own_partings(size):
        behind = [[2 * point + 1 for point in lot] for lot in lots]
        if not any(is_crossed(one, other) for one in first for other in behind):
            found.append(lots)
    least = min(len(lots) for lots in found)
    return [lots for lots in found if len(lots) == least]


def turned_blocks(size, blocks, many):
    """The blocks in which each point stands some places farther on."""
    return tuple(sorted(tuple(sorted((point - 1 + many) % size + 1 for point in block)) for block in blocks))


ALL = {size: own_partings(size) for size in range(1, 7)}


class ExamplesTest(Case):
    def test_between(self):
        shown = [ONE.blocks, ONE.turned_by(1).blocks, str(ONE.between()), ONE.between().between() == ONE.turned_by(-1),
                 ONE.block_of(4), len(ONE)]
        self.assertEqual(shown, [((1, 4), (2, 3)), ((1, 2), (3, 4)), "1 3|2|4", True, (1, 4), 2])

    def test_finer(self):
        fine = Parting(4, ((1,), (2, 3), (4,)))
        self.assertEqual([fine.is_finer(ONE), ONE.is_finer(Parting(4, ((1, 2, 3, 4),)))], [True, True])

    def test_crossing(self):
        self.raised(InvalidParting, Parting, 4, ((1, 3), (2, 4)))


class BlocksTest(Case):
    def test_all(self):
        self.assertEqual([len(ALL[size]) for size in ALL], [1, 2, 5, 14, 42, 132])
        for size, lots in ALL.items():
            for blocks in all_lots(list(range(1, size + 1))):
                if blocks not in lots:
                    self.raised(InvalidParting, Parting, size, blocks)
                    continue
                parting = Parting(size, blocks)
                self.same(parting.size, size)
                self.same(parting.blocks, blocks)
                self.same(parting.block_sizes, tuple(sorted((len(block) for block in blocks), reverse=True)))
                self.assertEqual((len(parting), list(parting), list(parting)), (len(blocks), list(blocks),
                                                                                list(blocks)))
                self.same(str(parting), "|".join(" ".join(map(str, block)) for block in blocks))
                for block in blocks:
                    self.assertTrue(all(parting.block_of(point) == block for point in block))

    def test_turned(self):
        for size, lots in ALL.items():
            for blocks in lots:
                parting = Parting(size, blocks)
                for many in range(-size - 1, 2 * size + 2):
                    self.assertEqual(parting.turned_by(many).blocks, turned_blocks(size, blocks, many))
                for many in (LONG - 1, 1 - LONG):
                    self.assertEqual(parting.turned_by(many), parting.turned_by(many % size))
                self.assertEqual(parting.turned_by(size), parting)

    def test_between(self):
        for size, lots in ALL.items():
            for blocks in lots if size < 6 else lots[::5]:
                parting = Parting(size, blocks)
                between = parting.between()
                self.assertEqual([between.blocks], own_between(size, blocks))
                self.assertEqual(len(between), size + 1 - len(blocks))
                self.assertEqual(between.between(), parting.turned_by(-1))

    def test_finer(self):
        for size in range(1, 6):
            for blocks in ALL[size]:
                for others in ALL[size]:
                    finer = all(any(set(block) <= set(other) for other in others) for block in blocks)
                    self.assertIs(Parting(size, blocks).is_finer(Parting(size, others)), finer)

    def test_many_points(self):
        self.same(MAX_POINTS, 60)
        whole = Parting(60, (tuple(range(1, 61)),))
        single = Parting(60, tuple((point,) for point in range(1, 61)))
        self.assertEqual((whole.between(), single.between()), (single, whole))
        self.assertEqual((whole.block_sizes, single.block_sizes), ((60,), (1,) * 60))
        self.assertEqual((whole.turned_by(17), single.turned_by(-17)), (whole, single))
        nested = Parting(60, tuple((point, 61 - point) for point in range(1, 31)))
        self.assertEqual(nested.between().between(), nested.turned_by(-1))
        self.assertEqual(nested.turned_by(1).turned_by(-1), nested)
        self.assertEqual([single.is_finer(nested), nested.is_finer(whole), whole.is_finer(nested)],
                         [True, True, False])
        one = Parting(1, ((1,),))
        self.assertEqual((one.between(), one.turned_by(5), str(one), one.block_of(1)), (one, one, "1", (1,)))


class WrongTest(Case):
    def test_sizes(self):
        for value in wrong_numbers() + [0, -1, 61]:
            self.raised_number(InvalidNumber, value, Parting, value, None)
            self.raised_number(InvalidNumber, value, Parting, value, ((1,),))

    def test_blocks(self):
        wrong = [(), ((1, 2, 3),), ((1, 2), (3,), (4,), (5,)), ((1, 2), (2, 3), (4,)), ((2, 3), (1, 4)), ((1, 4), (3, 2)),
                 ((1, 4), (2, 3), ()), ((), (1, 4), (2, 3)), [(1, 4), (2, 3)], ([1, 4], [2, 3]), ((0, 1), (2, 3)),
                 ((1, 4), (2, 5)), ((True, 4), (2, 3)), ((1, 4), (2, "3")), ((1, 4), (2, None)), (1, 2, 3, 4),
                 ((1, 1, 4), (2, 3)), ((1, 3), (2, 4)), ((1, 4), (2,)), (((1, 4),), (2, 3)), "1 4|2 3", None,
                 ((1, 2, 3, 4), (1, 2, 3, 4)), ((1, 2), (3, 10 ** 60), (4,)), {1: 4}, ((-1,), (1, 2, 3, 4)),
                 ((1, 2), (1, 2), (3, 4))]
        for value in wrong + wrong_values():
            self.raised(InvalidParting, Parting, 4, value)

    def test_points(self):
        for value in wrong_numbers() + [0, -1, 5]:
            self.raised_number(InvalidNumber, value, ONE.block_of, value)

    def test_turns(self):
        for value in wrong_numbers():
            self.raised_number(InvalidNumber, value, ONE.turned_by, value)

    def test_other_partings(self):
        for value in wrong_for(Parting) + [Parting(3, ((1, 2, 3),)), Parting(5, ((1, 4), (2, 3), (5,)))]:
            self.raised(InvalidParting, ONE.is_finer, value)

    def test_objects(self):
        for name in ("size", "blocks", "block_sizes"):
            with self.assertRaises(AttributeError):
                setattr(ONE, name, None)
        self.assertIs(ONE == Parting(4, ((1, 4), (2, 3))), True)
        self.assertIs(ONE != Parting(4, ((1, 4), (2, 3))), False)
        self.assertIs(ONE == Parting(4, ((1, 2, 3, 4),)), False)
        for value in wrong_for(Parting):
            self.assertIs(ONE == value, False)
            self.assertIs(ONE != value, True)
        for call in (lambda: ONE < ONE, lambda: ONE + ONE, lambda: ONE[0], lambda: ONE | ONE, lambda: -ONE):
            self.raised(TypeError, call)


if __name__ == "__main__":
    unittest.main()
