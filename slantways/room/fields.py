"""Small fields, and rows of their elements."""
from slantways.checks import check_integer, is_whole_between
from slantways.errors import InvalidField, InvalidNumber, InvalidOperation, Refused
from slantways.room.arithmetic import order_in, product_table, sum_table
from slantways.room.spans import (
    across_to, is_row, is_within, moved, plain_of, plain_table, power_inverse, power_product,
)

SIZES = (2, 3, 4, 5, 7, 8, 9)
PRIMES = (2, 3, 2, 5, 7, 2, 3)
MAX_LENGTH = 60
MAX_ROWS = 60


class Field:
    """A field of a small size."""

    def __init__(self, size):
        if not is_whole_between(size, 2, 9) or size not in SIZES:
            raise InvalidNumber(size)
        self._size = size
        self._prime = PRIMES[SIZES.index(size)]
        self._members = tuple(range(size))
        self._sums = sum_table(size, self._prime)
        self._products = product_table(size, self._prime)
        self._negatives = tuple([row.index(0) for row in self._sums])
        # The entry of 0 is never read: it has no inverse.
        self._inverses = (0,) + tuple([row.index(1) for row in self._products[1:]])
        self._orders = (0,) + tuple([order_in(self._products, x) for x in range(1, size)])
        self._primitive = self._orders.index(size - 1)

    @property
    def size(self):
        """The number of elements."""
        return self._size

    @property
    def prime(self):
        """The prime of which the size is a power."""
        return self._prime

    @property
    def members(self):
        """The ascending tuple of the elements."""
        return self._members

    @property
    def primitive(self):
        """The least element whose powers are all elements but 0."""
        return self._primitive

    @property
    def sums(self):
        """The tuple that has for each element the tuple of its sums with all elements."""
        return self._sums

    @property
    def products(self):
        """The tuple that has for each element the tuple of its products with all elements."""
        return self._products

    @property
    def negatives(self):
        """The tuple of the negatives of all elements."""
        return self._negatives

    @property
    def inverses(self):
        """The tuple of the inverses of all elements, with 0 in the place of that of 0."""
        return self._inverses

    def plus(self, x, y):
        """The sum of two elements."""
        check_elements(self, (x, y))
        return self._sums[x][y]

    def minus(self, x, y):
        """The difference of two elements."""
        check_elements(self, (x, y))
        return self._sums[x][self._negatives[y]]

    def times(self, x, y):
        """The product of two elements."""
        check_elements(self, (x, y))
        return self._products[x][y]

    def over(self, x, y):
        """The quotient of two elements."""
        check_elements(self, (x, y))
        check_not_zero(y)
        return self._products[x][self._inverses[y]]

    def negative(self, x):
        """The element that adds up to 0 with an element."""
        check_elements(self, (x,))
        return self._negatives[x]

    def inverse(self, x):
        """The element that multiplies to 1 with an element."""
        check_elements(self, (x,))
        check_not_zero(x)
        return self._inverses[x]

    def order(self, x):
        """The least exponent of at least 1 with which the power of an element is 1."""
        check_elements(self, (x,))
        check_not_zero(x)
        return self._orders[x]

    def power(self, x, number):
        """The power of an element with any integer as its exponent."""
        check_elements(self, (x,))
        check_integer(number)
        if x == 0:
            if number < 0:
                raise Refused(("zero",))
            return 1 if number == 0 else 0
        power = 1
        for _ in range(number % self._orders[x]):
            power = self._products[power][x]
        return power

    def __contains__(self, x):
        return is_whole_between(x, 0, self._size - 1)

    def __len__(self):
        return len(self._members)

    def __iter__(self):
        return iter(self._members)

    def __eq__(self, other):
        return isinstance(other, Field) and self._size == other._size

    def __str__(self):
        return f"field of {self._size}"


def check_field(field):
    """Refuse what is no field."""
    if not isinstance(field, Field):
        raise InvalidField("this is no object of Field")


def check_elements(field, values):
    """Refuse the first of some values that is no element of a field."""
    for value in values:
        if value not in field:
            raise InvalidNumber(value)


def check_not_zero(x):
    """Refuse the element 0."""
    if x == 0:
        raise Refused(("zero",))


def is_rows(field, length, value):
    """Whether a value is a tuple of few enough rows of a length."""
    return isinstance(value, tuple) and len(value) <= MAX_ROWS and all([is_row(field, length, row) for row in value])


def check_rows(field, length, rows):
    """Refuse what is no tuple of few enough rows of a length."""
    if not is_rows(field, length, rows):
        raise InvalidOperation("this is no tuple of at most 60 rows of the length")


def check_span(field, length, rows):
    """Refuse what is no field, no length of rows, and no tuple of rows of this length."""
    check_field(field)
    if not is_whole_between(length, 0, MAX_LENGTH):
        raise InvalidNumber(length)
    check_rows(field, length, rows)


def check_row(field, row):
    """Refuse what is no field, and what is no row of any length."""
    check_field(field)
    if not isinstance(row, tuple) or len(row) > MAX_LENGTH or not is_row(field, len(row), row):
        raise InvalidOperation("this is no row of at most 60 elements")


def plain_rows(field, length, rows):
    """The tuple of the plain rows of the span of some rows."""
    check_span(field, length, rows)
    return plain_of(field, rows)


def across(field, length, rows):
    """The tuple of the plain rows of the span of all rows that are across to some rows."""
    check_span(field, length, rows)
    return across_to(field, length, rows)


def is_spanned(field, length, rows, value):
    """Whether a value is a row of the span of some rows."""
    check_span(field, length, rows)
    return is_row(field, length, value) and is_within(field, plain_table(field, rows), value)


def row_product(field, one, other):
    """The product of two power rows of one length."""
    check_row(field, one)
    if not is_row(field, len(one), other):
        raise InvalidOperation("the second row has another length than the first one")
    return power_product(field, one, other)


def row_inverse(field, one):
    """The inverse of a power row."""
    check_row(field, one)
    if one[:1] in ((), (0,)):
        raise Refused(("order",))
    return power_inverse(field, one)


def row_moved(field, one, many):
    """The row in which each element stands some places further on, or nearer to the front if they are below 0."""
    check_row(field, one)
    check_integer(many)
    return moved(one, many)
