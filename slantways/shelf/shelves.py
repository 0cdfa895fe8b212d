"""Shelves: lots of integers that are closed under adding the numbers of a coprime slope."""
from slantways.checks import GREATEST, is_ascending, is_number, is_whole_between
from slantways.errors import InvalidNumber, InvalidShelf, Refused, TooMany
from slantways.rows import ascending, spaced
from slantways.way.ways import Way, check_coprime, check_coprime_way, check_slope, way_count, ways

MAX_LISTED = 5000
MAX_NUMBERS = 100
MAX_MADE_BY = 10 ** 6


class Shelf:
    """A shelf of a coprime slope, told by its gaps."""

    def __init__(self, slope, gaps=()):
        if not is_gaps(slope, gaps):
            raise InvalidShelf("these are not all gaps of a shelf of the slope")
        self._slope = slope
        self._gaps = gaps
        self._gap_table = {gap: True for gap in gaps}
        self._rise_makers = least_members(slope.rises, gaps)
        self._step_makers = least_members(slope.steps, gaps)
        self._makers = tuple([maker for maker in self._rise_makers if maker in self._step_makers])

    @classmethod
    def of_way(cls, way):
        """The shelf whose rise makers are the levels of a way ahead of its rises."""
        check_coprime_way(way)
        return cls(way.slope, gaps_of(way))

    @classmethod
    def of_makers(cls, slope, numbers):
        """The least shelf, as a set, that holds all of some numbers."""
        check_slope(slope)
        if not is_makers(numbers):
            raise InvalidShelf("a shelf is made by an ascending tuple of numbers that begins with 0")
        check_coprime(slope)
        return cls(slope, gaps_beside(slope, numbers))

    @property
    def slope(self):
        """The slope of the shelf."""
        return self._slope

    @property
    def gaps(self):
        """The ascending tuple of the gaps."""
        return self._gaps

    @property
    def rise_makers(self):
        """The ascending tuple of the least members of each rest by the rises."""
        return self._rise_makers

    @property
    def step_makers(self):
        """The ascending tuple of the least members of each rest by the steps."""
        return self._step_makers

    @property
    def makers(self):
        """The ascending tuple of the members that are rise makers and step makers at once."""
        return self._makers

    def way(self):
        """The way whose shelf this is."""
        return way_with_rises(self._slope, self._rise_makers)

    def dual(self):
        """The dual shelf."""
        if len(self._gaps) == 0:
            return Shelf(self._slope)
        last = self._gaps[-1]
        return Shelf(self._slope, tuple([gap for gap in range(1, last + 1) if last - gap not in self._gap_table]))

    def exchanged(self):
        """The shelf of the exchanged slope with the same members."""
        return Shelf(self._slope.exchanged(), self._gaps)

    def addable(self):
        """The ascending tuple of the gaps that can be added."""
        table = self._gap_table
        return tuple([gap for gap in self._gaps if len(gaps_above(self._slope, table, gap)) == 0])

    def removable(self):
        """The ascending tuple of the members that can be taken away."""
        return self._makers[1:]

    def added(self, number):
        """The shelf with one gap as a member more."""
        if not (is_number(number) and number in self._gap_table):
            raise InvalidNumber(number)
        above = gaps_above(self._slope, self._gap_table, number)
        if len(above) > 0:
            raise Refused(("gap", above[0]))
        return Shelf(self._slope, tuple([gap for gap in self._gaps if gap != number]))

    def removed(self, number):
        """The shelf with one member less."""
        if not is_whole_between(number, 1, GREATEST) or number in self._gap_table:
            raise InvalidNumber(number)
        below = members_below(self._slope, self._gap_table, number)
        if len(below) > 0:
            raise Refused(("member", below[0]))
        return Shelf(self._slope, with_more(self._gaps, (number,)))

    def holds(self, other):
        """Whether all members of another shelf are members of this one."""
        check_like(self, other)
        return all([gap in other._gap_table for gap in self._gaps])

    def __or__(self, other):
        if not isinstance(other, Shelf):
            return NotImplemented
        check_like(self, other)
        return Shelf(self._slope, tuple([gap for gap in self._gaps if gap in other._gap_table]))

    def __and__(self, other):
        if not isinstance(other, Shelf):
            return NotImplemented
        check_like(self, other)
        return Shelf(self._slope, with_more(self._gaps, [gap for gap in other._gaps if gap not in self._gap_table]))

    def __contains__(self, x):
        return is_number(x) and x >= 0 and x not in self._gap_table

    def __eq__(self, other):
        return isinstance(other, Shelf) and self._slope == other._slope and self._gaps == other._gaps

    def __str__(self):
        if len(self._gaps) == 0:
            return f"shelf of {self._slope}"
        return f"shelf of {self._slope} without {spaced(self._gaps)}"


def check_shelf(shelf):
    """Refuse what is no shelf."""
    if not isinstance(shelf, Shelf):
        raise InvalidShelf("this is no object of Shelf")


def check_like(one, other):
    """Refuse a second shelf that is none, or has another slope than the first one."""
    check_shelf(other)
    if one.slope != other.slope:
        raise InvalidShelf("the second shelf has another slope")


def check_listed(slope):
    """Refuse what is no coprime slope, and a slope with too many shelves to go through."""
    check_slope(slope)
    check_coprime(slope)
    if way_count(slope) > MAX_LISTED:
        raise TooMany(MAX_LISTED)


def way_with_rises(slope, levels):
    """The way that has some levels ahead of its rises."""
    level = 0
    letters = []
    for _ in range(slope.rises + slope.steps):
        if level in levels:
            letters.append("r")
            level = level + slope.steps
        else:
            letters.append("s")
            level = level - slope.rises
    return Way(slope, "".join(letters))


def least_members(side, gaps):
    """The ascending tuple of the least members of each rest by a side, with all gaps in ascending order."""
    members = list(range(side))
    for gap in gaps:
        # The gaps of one rest have no member between them, so the last one of them counts.
        members[gap % side] = gap + side
    return tuple(sorted([int(member) for member in members]))


def with_more(gaps, more):
    """The ascending tuple of some gaps and of more numbers that are not among them."""
    return tuple(sorted([int(gap) for gap in list(gaps) + list(more)]))


def sides(slope):
    """The pair of the lesser and the greater number of a slope."""
    if slope.rises < slope.steps:
        return slope.rises, slope.steps
    return slope.steps, slope.rises


def gaps_above(slope, gaps, number):
    """The ascending list of the gaps among a number and the rises, and the number and the steps."""
    above = [number + side for side in sides(slope)]
    return [gap for gap in above if gap in gaps]


def members_below(slope, gaps, number):
    """The ascending list of the members among a number less the rises, and the number less the steps."""
    below = [number - side for side in sides(slope)[::-1]]
    return [member for member in below if member >= 0 and member not in gaps]


def gaps_of(way):
    """The ascending tuple of the gaps of the shelf of a way."""
    rises = way.slope.rises
    gaps = []
    for letter, level in zip(way.text, way.levels):
        if letter == "r":
            gaps.extend(list(range(level - rises, 0, -rises)))
    return with_more(gaps, ())


def is_makers(value):
    """Whether a value is an ascending tuple of numbers, with 0 as the first one, that make a shelf."""
    return is_ascending(value, 0, MAX_MADE_BY) and len(value) <= MAX_NUMBERS and value[:1] == (0,)


def gaps_beside(slope, numbers):
    """The ascending tuple of the gaps of the least shelf, as a set, that holds some numbers."""
    gaps = {}
    for number in range((slope.rises - 1) * (slope.steps - 1)):
        if number not in numbers and len(members_below(slope, gaps, number)) == 0:
            gaps[number] = True
    return tuple([int(gap) for gap in gaps])


def is_gaps(slope, value):
    """Whether a value is the ascending tuple of all gaps of a shelf of a coprime slope."""
    check_slope(slope)
    check_coprime(slope)
    if not is_ascending(value, 1, 2 * slope.half):
        return False
    table = {gap: True for gap in value}
    # From each sum of rises and steps one comes down to 0, which is no gap, so this refuses these sums, too.
    return not any([len(members_below(slope, table, gap)) > 0 for gap in value])


def moves(one, other):
    """A shortest row of moves from a shelf to another one."""
    check_shelf(one)
    check_like(one, other)
    # Over the union each move is possible: the greatest gaps are added first, the least members taken away first.
    adding = [("+", gap) for gap in one.gaps[::-1] if gap in other]
    taking = [("-", gap) for gap in other.gaps if gap in one]
    return tuple(adding + taking)


def is_move(value):
    """Whether a value is a pair of a sign and an integer."""
    if not isinstance(value, tuple) or len(value) != 2:
        return False
    sign, number = value
    return sign in ("+", "-") and is_number(number)


def is_possible(slope, gaps, sign, number):
    """Whether a move can be made for the shelf with a table of its gaps."""
    if sign == "+":
        return number in gaps and len(gaps_above(slope, gaps, number)) == 0
    return number > 0 and number not in gaps and len(members_below(slope, gaps, number)) == 0


def is_moves(one, other, value):
    """Whether a value is a shortest row of moves from a shelf to another one."""
    least = len(moves(one, other))
    if not isinstance(value, tuple) or len(value) != least or not all([is_move(move) for move in value]):
        return False
    gaps = {gap: True for gap in one.gaps}
    for sign, number in value:
        if not is_possible(one.slope, gaps, sign, number):
            return False
        if sign == "+":
            del gaps[number]
        else:
            gaps[number] = True
    return len(gaps) == len(other.gaps) and all([gap in gaps for gap in other.gaps])


def shelves(slope):
    """A generator that yields all shelves of a coprime slope, those with the fewest gaps first."""
    check_listed(slope)
    found = [gaps_of(way) for way in ways(slope)]
    for row in ascending([(len(gaps),) + gaps for gaps in found]):
        yield Shelf(slope, row[1:])


def filling_count(slope):
    """How many fillings a coprime slope has."""
    orders = {}
    count = 1
    # Shelves with fewer gaps come ahead, and the one with the most gaps is the last one.
    for shelf in shelves(slope):
        rests = [tuple([gap for gap in shelf.gaps if gap != number]) for number in shelf.addable()]
        if len(rests) > 0:
            count = sum([orders[rest] for rest in rests])
        orders[shelf.gaps] = count
    return count
