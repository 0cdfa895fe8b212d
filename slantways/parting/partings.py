"""Partings of points on a ring without crossing blocks, and those of ways."""
from math import comb, gcd

from slantways.checks import GREATEST, check_integer, is_ascending, is_whole_between
from slantways.errors import InvalidNumber, InvalidParting, Refused, TooMany
from slantways.parting.lines import points_parted
from slantways.rows import spaced
from slantways.way.ways import check_coprime, check_slope, check_way, way_count, ways

MAX_POINTS = 60
MAX_PARTED = 5000


class Parting:
    """A parting of the points 1, 2, and so on, up to a size, on a ring."""

    def __init__(self, size, blocks):
        if not is_whole_between(size, 1, MAX_POINTS):
            raise InvalidNumber(size)
        if not is_parting(size, blocks):
            raise InvalidParting("these are not the blocks of a parting without crossings")
        self._size = size
        self._blocks = blocks
        self._block_sizes = tuple(sorted([len(block) for block in blocks], reverse=True))
        self._home = {point: block for block in blocks for point in block}

    @property
    def size(self):
        """The number of points."""
        return self._size

    @property
    def blocks(self):
        """The ascending tuple of the blocks."""
        return self._blocks

    @property
    def block_sizes(self):
        """The tuple of the numbers of points of the blocks, the greatest one first."""
        return self._block_sizes

    def block_of(self, point):
        """The block with a point."""
        if not is_whole_between(point, 1, self._size):
            raise InvalidNumber(point)
        return self._home[point]

    def turned_by(self, many):
        """The parting in which each point has become one that stands some places farther on the ring."""
        check_integer(many)
        return Parting(self._size, blocks_by([[(point - 1 + many) % self._size + 1 for point in block]
                                              for block in self._blocks]))

    def between(self):
        """The parting of the points between that has the fewest blocks without crossing a block of this one."""
        ahead = {}
        for block in self._blocks:
            # The last point of a block stands ahead of its first one on the ring.
            for point, before in zip(block, block[-1:] + block[:-1]):
                ahead[point] = before
        blocks = []
        seen = {}
        for start in range(1, self._size + 1):
            block = []
            point = start
            while point not in seen:
                seen[point] = True
                block.append(point)
                # On the near side of the chord to the next point lies the point between behind its other end.
                point = ahead[point % self._size + 1]
            if len(block) > 0:
                blocks.append(block)
        return Parting(self._size, blocks_by(blocks))

    def is_finer(self, other):
        """Whether each block is part of a block of another parting."""
        check_parting(other)
        if other._size != self._size:
            raise InvalidParting("the other parting has another size")
        return all([other._home[block[0]] == other._home[point] for block in self._blocks for point in block])

    def __len__(self):
        return len(self._blocks)

    def __iter__(self):
        return iter(self._blocks)

    def __eq__(self, other):
        return isinstance(other, Parting) and self._size == other._size and self._blocks == other._blocks

    def __str__(self):
        return "|".join([spaced(block) for block in self._blocks])


def blocks_by(lots):
    """The ascending tuple of ascending tuples with the points of some lots."""
    blocks = [tuple(sorted([int(point) for point in lot])) for lot in lots]
    by_least = {block[0]: block for block in blocks}
    return tuple([by_least[least] for least in sorted([int(point) for point in by_least])])


def is_parting(size, value):
    """Whether a value is the ascending tuple of the blocks of a parting without crossings."""
    if not isinstance(value, tuple) or not all([is_ascending(block, 1, size) and block != () for block in value]):
        return False
    home = {point: block for block in value for point in block}
    if len(home) < size or sum([len(block) for block in value]) != size:
        return False
    if not is_ascending(tuple([block[0] for block in value]), 1, size):
        return False
    for block in value:
        for point, following in zip(block, block[1:]):
            # No block crosses if those with points between two neighbours of a block lie there as a whole.
            inner = [home[inside] for inside in range(point + 1, following)]
            if any([other[0] < point or other[-1] > following for other in inner]):
                return False
    return True


def check_parting(parting):
    """Refuse what is no parting."""
    if not isinstance(parting, Parting):
        raise InvalidParting("this is no object of Parting")


def check_flat(slope):
    """Refuse a slope that is not coprime, or has no fewer rises than steps."""
    check_coprime(slope)
    if slope.rises >= slope.steps:
        raise Refused(("steep",))


def check_listed(slope):
    """Refuse a slope that is not coprime and flat, and one with too many ways to go through."""
    check_flat(slope)
    if way_count(slope) > MAX_PARTED:
        raise TooMany(MAX_PARTED)


def parting_by(way):
    """The parting of a way of a coprime and flat slope."""
    return Parting(way.slope.steps - 1, blocks_by(points_parted(way)))


def parting_of(way):
    """The parting of a way."""
    check_way(way)
    check_flat(way.slope)
    return parting_by(way)


def run_points(way):
    """The tuple of the points at which the runs of a way stand, the least points of the blocks of its parting."""
    points = []
    point = 1
    for ahead, letter in zip("s" + way.text, way.text):
        if letter == "s":
            point += 1
        elif ahead == "s":
            points.append(point)
    return tuple(points)


def way_with(slope, parting):
    """The way of a coprime and flat slope with a parting."""
    least = tuple([block[0] for block in parting])
    for way in ways(slope):
        if run_points(way) == least and parting_by(way) == parting:
            return way
    raise Refused(("no way",))


def way_of_parting(slope, parting):
    """The way of a slope with a parting."""
    check_slope(slope)
    check_parting(parting)
    check_listed(slope)
    return way_with(slope, parting)


def partings(slope):
    """A generator that yields the partings of all ways of a slope, by their blocks, ascending."""
    check_slope(slope)
    check_listed(slope)
    found = {}
    for way in ways(slope):
        parting = parting_by(way)
        # The mark at the end of a block comes ahead of all digits, so the texts have the order of the blocks.
        marks = ["".join([f"{point:02d}" for point in block]) + "!" for block in parting]
        found["".join(marks)] = parting
    for text in sorted([str(text) for text in found]):
        yield found[text]


def turned_way(way, many):
    """The way whose parting is that of a way, turned by a number."""
    check_way(way)
    check_integer(many)
    check_listed(way.slope)
    return way_with(way.slope, parting_by(way).turned_by(many))


def block_count(slope, blocks):
    """How many ways of a slope have partings with so many blocks."""
    check_slope(slope)
    if not is_whole_between(blocks, 0, GREATEST):
        raise InvalidNumber(blocks)
    check_flat(slope)
    if not 1 <= blocks <= slope.rises:
        return 0
    return comb(slope.rises, blocks) * comb(slope.steps - 1, blocks - 1) // slope.rises


def kept(slope, many):
    """How many of the partings of all ways of a slope are kept by a turn."""
    check_slope(slope)
    check_integer(many)
    check_flat(slope)
    points = slope.steps - 1
    order = points // gcd(many, points)
    if order == 1:
        return way_count(slope)
    return comb(points // order + slope.rises // order, slope.rises // order)
