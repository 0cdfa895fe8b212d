"""The table of both counts of all ways of a slope, and the quotient that it spreads to."""
from slantways.checks import check_integer, is_integer, is_whole_between
from slantways.count.counts import counts_of
from slantways.errors import InvalidNumber, InvalidOperation, Refused, TooMany
from slantways.shelf.shelves import sides
from slantways.way.ways import check_coprime, check_slope, way_count, ways

MAX_WAYS = 5000
MAX_TERMS = 400
MAX_ORDER = 100


class CountTable:
    """How many ways of a coprime slope have which room and how many pairs."""

    def __init__(self, slope):
        check_slope(slope)
        check_coprime(slope)
        if way_count(slope) > MAX_WAYS:
            raise TooMany(MAX_WAYS)
        counts = [counts_of(way) for way in ways(slope)]
        rows = [[0] * (slope.half + 1) for _ in range(slope.half + 1)]
        for x, y in counts:
            rows[x][y] += 1
        self._slope = slope
        self._total = len(counts)
        self._half = slope.half
        self._rows = tuple([tuple(row) for row in rows])
        self._triples = tuple([(x, y, many) for x, row in enumerate(rows) for y, many in enumerate(row) if many > 0])

    @property
    def slope(self):
        """The slope of the table."""
        return self._slope

    @property
    def total(self):
        """The number of ways of the slope."""
        return self._total

    @property
    def half(self):
        """The half of the slope, the greatest room and the greatest number of pairs."""
        return self._half

    def row(self, x):
        """The tuple of the numbers of ways with a room and 0, 1, and so on, pairs."""
        check_count(self, x)
        return self._rows[x]

    def room_sums(self):
        """The tuple of the numbers of ways with the room 0, 1, and so on."""
        return tuple([sum(row) for row in self._rows])

    def pair_sums(self):
        """The tuple of the numbers of ways with 0, 1, and so on, pairs."""
        return tuple([sum([row[y] for row in self._rows]) for y in range(self._half + 1)])

    def is_even(self):
        """Whether each number is equal to that for the exchanged integers."""
        return all([self._rows[y][x] == many for x, y, many in self._triples])

    def value(self, q, t):
        """The sum, over all ways, of a number to the power of the room, times another one to that of the pairs."""
        check_integer(q)
        check_integer(t)
        room_powers = powers(q, self._half)
        pair_powers = powers(t, self._half)
        return sum([many * room_powers[x] * pair_powers[y] for x, y, many in self._triples])

    def spread(self):
        """The polynomial of the numbers of ways by the half of the slope plus the room, less the pairs."""
        terms = [0] * (2 * self._half + 1)
        for x, y, many in self._triples:
            terms[self._half + x - y] = terms[self._half + x - y] + many
        return trimmed(terms)

    def __getitem__(self, at):
        if not isinstance(at, tuple) or len(at) != 2:
            raise InvalidNumber(at)
        x, y = at
        check_count(self, x)
        check_count(self, y)
        return self._rows[x][y]

    def __iter__(self):
        return iter(self._triples)

    def __len__(self):
        return len(self._triples)

    def __eq__(self, other):
        return isinstance(other, CountTable) and self._slope == other._slope

    def __str__(self):
        return f"table of {self._slope} with {self._total} ways"


def check_count(table, number):
    """Refuse what is neither a room nor a number of pairs that a table tells of."""
    if not is_whole_between(number, 0, table.half):
        raise InvalidNumber(number)


def check_order(order):
    """Refuse what is no order of roots of unity, within the bounds."""
    if not is_whole_between(order, 1, MAX_ORDER):
        raise InvalidNumber(order)


def check_polynomial(polynomial):
    """Refuse what is no polynomial with few enough terms."""
    if not is_polynomial(polynomial):
        raise InvalidOperation("a polynomial is a tuple of at most 400 integers that does not end with 0")


def is_polynomial(value):
    """Whether a value is a tuple of at most 400 integers that does not end with 0."""
    if not isinstance(value, tuple) or len(value) > MAX_TERMS:
        return False
    return all([is_integer(term) for term in value]) and value[-1:] != (0,)


def powers(number, most):
    """The list of the powers of a number from that with the exponent 0, which is 1, up to an exponent."""
    found = [1]
    for _ in range(most):
        found.append(found[-1] * number)
    return found


def trimmed(terms):
    """The polynomial with some terms, without the zeros at its end."""
    end = len(terms)
    while end > 0 and terms[end - 1] == 0:
        end -= 1
    return tuple(terms[:end])


def quotient(slope):
    """The quotient of products of a coprime slope [7.4], a polynomial."""
    check_slope(slope)
    check_coprime(slope)
    size = 2 * slope.half + 1
    if size > MAX_TERMS:
        raise TooMany(MAX_TERMS)
    less, more = sides(slope)
    terms = [1] + [0] * (size - 1)
    # [n] is 1 less the n-th power, over 1 less the first one. What both products share falls away, and what stands
    # beyond the last term of the quotient does not matter.
    for step in range(2, less + 1):
        for at in range(size - 1, more + step - 2, -1):
            terms[at] = terms[at] - terms[at - more - step + 1]
        for at in range(step, size):
            terms[at] = terms[at] + terms[at - step]
    return tuple(terms)


def product_of(one, other):
    """The product of two polynomials of any length."""
    terms = [0] * (len(one) + len(other))
    for at, factor in enumerate(one):
        for place, term in enumerate(other):
            terms[at + place] = terms[at + place] + factor * term
    return trimmed(terms)


def division(one, other):
    """The pair of the whole part and the rest of a polynomial over one that ends with 1 or -1."""
    rest = list(one)
    lead = other[-1]
    whole = [0] * max(0, len(one) - len(other) + 1)
    for at in range(len(whole) - 1, -1, -1):
        factor = rest[at + len(other) - 1] * lead
        whole[at] = factor
        for place, term in enumerate(other):
            rest[at + place] = rest[at + place] - factor * term
    return trimmed(whole), trimmed(rest)


def times(one, other):
    """The product of two polynomials."""
    check_polynomial(one)
    check_polynomial(other)
    return product_of(one, other)


def divided(one, other):
    """The pair of the whole part and the rest of a polynomial over another one."""
    check_polynomial(one)
    check_polynomial(other)
    if other == ():
        raise Refused(("zero",))
    if other[-1] not in (1, -1):
        raise Refused(("lead", other[-1]))
    return division(one, other)


def value_at(polynomial, x):
    """The value of a polynomial at an integer."""
    check_polynomial(polynomial)
    check_integer(x)
    value = 0
    for term in polynomial[::-1]:
        value = value * x + term
    return value


def turn_polynomial(order):
    """The polynomial whose zeros are the primitive roots of unity of an order."""
    check_order(order)
    found = {}
    for number in range(1, order + 1):
        if order % number == 0:
            left = (-1,) + (0,) * (number - 1) + (1,)
            for lesser in found:
                if number % lesser == 0:
                    left = division(left, found[lesser])[0]
            found[number] = left
    return found[order]


def at_turn(slope, order):
    """The value of the quotient of a slope at the primitive roots of unity of an order."""
    check_slope(slope)
    check_order(order)
    rest = division(quotient(slope), turn_polynomial(order))[1]
    if len(rest) > 1:
        raise Refused(("no integer", rest))
    return sum(rest)
