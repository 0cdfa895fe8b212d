"""Promises [8.4] to [8.6], and the functions on rows over a field."""
import unittest
from itertools import product

from slantways.errors import InvalidField, InvalidNumber, InvalidOperation, Refused
from slantways.room.fields import (
    SIZES, Field, across, is_spanned, plain_rows, row_inverse, row_moved, row_product,
)
from tests.helper import Case, wrong_for, wrong_numbers, wrong_values

F2, F3, F4, F9 = Field(2), Field(3), Field(4), Field(9)
SMALL = [(F2, 1), (F2, 2), (F2, 3), (F3, 2), (F4, 2)]
LONG = 10 ** 60


def all_rows(field, length):
    """All rows of a length, ascending."""
    return list(product(field.members, repeat=length))


def order(row):
    """The index of the first element other than 0, or None."""
    return next((at for at, element in enumerate(row) if element != 0), None)


def combine(field, length, factors, rows):
    """The sum of some rows, each one times an element."""
    total = [0] * length
    for factor, row in zip(factors, rows):
        total = [field.plus(x, field.times(factor, y)) for x, y in zip(total, row)]
    return tuple(total)


def span(field, length, rows):
    """The set of all sums of some rows times elements."""
    return {combine(field, length, factors, rows) for factors in product(field.members, repeat=len(rows))}


def pairing(field, one, other):
    """The sum of the products of elements at equal indices."""
    total = 0
    for x, y in zip(one, other):
        total = field.plus(total, field.times(x, y))
    return total


def lots_of_rows():
    """Fields and lengths with lots of rows: all lots of up to two rows, and some of three and more."""
    for field, length in SMALL:
        rows = all_rows(field, length)
        for many in range(3):
            for lot in product(rows, repeat=many):
                yield field, length, lot
        for at in range(len(rows)):
            yield field, length, tuple((rows[at:] + rows)[:4])


def no_rows(field, length):
    """Values that are no tuples of at most 60 rows of a length."""
    zero = (0,) * length
    wrong = [[zero], (list(zero),), (zero + (0,),), (zero, zero[:-1]), (zero,) * 61, ("0" * length,), (None,), zero,
             (zero, (True,) * length), (zero, (field.size,) * length), ((-1,) * length,), ((LONG,) * length,)]
    return wrong + [value for value in wrong_values() if value != ()]


class ExamplesTest(Case):
    def test_spans(self):
        shown = [plain_rows(F2, 3, ((1, 1, 0), (0, 1, 1), (1, 0, 1))), across(F2, 3, ((1, 1, 0), (0, 1, 1))),
                 is_spanned(F2, 3, ((1, 1, 0), (0, 1, 1)), (1, 0, 1))]
        self.assertEqual(shown, [((1, 0, 1), (0, 1, 1)), ((1, 1, 1),), True])

    def test_power_rows(self):
        shown = [row_product(F4, (1, 2, 0), (1, 3, 1)), row_inverse(F2, (1, 1, 0, 0)), row_moved(F2, (1, 1, 0), 1),
                 row_moved(F2, (1, 1, 0), -1), plain_rows(F9, 0, ())]
        self.assertEqual(shown, [(1, 1, 0), (1, 1, 1, 1), (0, 1, 1), (1, 0, 0), ()])


class SpansTest(Case):
    def test_plain_rows(self):
        for field, length, rows in lots_of_rows():
            plain = plain_rows(field, length, rows)
            spanned = span(field, length, rows)
            self.assertEqual(span(field, length, plain), spanned)
            orders = [order(row) for row in plain]
            self.assertEqual(orders, sorted({order(row) for row in spanned} - {None}))
            for row in plain:
                self.assertEqual([row[at] for at in orders], [int(at == order(row)) for at in orders])
            self.assertEqual(plain_rows(field, length, rows[::-1]), plain)
            self.assertEqual(plain_rows(field, length, plain), plain)

    def test_is_spanned(self):
        for field, length, rows in list(lots_of_rows())[::3]:
            spanned = span(field, length, rows)
            for row in all_rows(field, length):
                self.assertIs(is_spanned(field, length, rows, row), row in spanned)

    def test_spans_nothing_else(self):
        for value in wrong_values() + [[0, 0], (0, True), (False, 0), (0,), (0, 0, 0), (0, 3), (0, -1), "00"]:
            self.assertIs(is_spanned(F2, 2, ((1, 0), (0, 1)), value), False)
        self.assertIs(is_spanned(F2, 0, (), ()), True)
        self.assertIs(is_spanned(F2, 1, (), (0,)), True)
        self.assertIs(is_spanned(F2, 1, (), (1,)), False)

    def test_across(self):
        for field, length, rows in lots_of_rows():
            found = across(field, length, rows)
            all_across = [z for z in all_rows(field, length) if not any(pairing(field, z, row) for row in rows)]
            self.assertEqual(span(field, length, found), set(all_across))
            self.assertEqual(plain_rows(field, length, found), found)
            plain = plain_rows(field, length, rows)
            self.assertEqual(len(found), length - len(plain))
            self.assertEqual(across(field, length, found), plain)

    def test_long_rows(self):
        units = tuple(tuple(int(at == place) for at in range(60)) for place in range(60))
        for size in SIZES:
            field = Field(size)
            self.assertEqual(plain_rows(field, 60, units[::-1]), units)
            self.assertEqual(across(field, 60, units), ())
            self.assertEqual(across(field, 60, ()), units)
            most = (field.size - 1,) * 60
            self.assertEqual(plain_rows(field, 60, (most,) * 60), ((1,) * 60,))
            self.assertEqual(len(across(field, 60, (most,) * 60)), 59)

    def test_no_places(self):
        for rows in ((), ((),), ((),) * 60):
            self.assertEqual([plain_rows(F9, 0, rows), across(F9, 0, rows)], [(), ()])
            self.assertIs(is_spanned(F9, 0, rows, ()), True)
            self.assertIs(is_spanned(F9, 0, rows, (0,)), False)
        self.raised(InvalidOperation, plain_rows, F9, 0, ((),) * 61)


class PowerRowsTest(Case):
    def test_products(self):
        for field, length in SMALL:
            for one in all_rows(field, length):
                for other in all_rows(field, length):
                    found = []
                    for k in range(length):
                        found.append(pairing(field, one[:k + 1], other[:k + 1][::-1]))
                    self.same(row_product(field, one, other), tuple(found))
        self.assertEqual(row_product(F9, (), ()), ())
        self.assertEqual(row_product(F3, (1,) * 60, (1,) * 60), tuple((k + 1) % 3 for k in range(60)))

    def test_inverses(self):
        for field, length in SMALL + [(F2, 5), (F9, 2)]:
            for row in all_rows(field, length):
                if row[0] == 0:
                    self.raised_number(Refused, ("order",), row_inverse, field, row)
                else:
                    inverse = row_inverse(field, row)
                    self.assertEqual(row_product(field, row, inverse), (1,) + (0,) * (length - 1))
                    self.assertEqual(len(inverse), length)
        self.raised_number(Refused, ("order",), row_inverse, F9, ())
        self.assertEqual(row_inverse(F2, (1, 1) + (0,) * 58), (1,) * 60)

    def test_moved(self):
        row = (1, 2, 3, 4)
        field = Field(5)
        for many in range(-7, 8):
            found = tuple(row[at - many] if 0 <= at - many < 4 else 0 for at in range(4))
            self.same(row_moved(field, row, many), found)
        for many in (-4, 4, LONG - 1, 1 - LONG):
            self.assertEqual(row_moved(field, row, many), (0, 0, 0, 0))
            self.assertEqual(row_moved(field, (), many), ())
        self.assertEqual(row_moved(field, (), 0), ())
        self.assertEqual(row_moved(field, (3,) * 60, 59), (0,) * 59 + (3,))


class WrongTest(Case):
    def test_fields(self):
        for value in wrong_for(Field):
            for call in (plain_rows, across):
                self.raised(InvalidField, call, value, -1, None)
            self.raised(InvalidField, is_spanned, value, 61, None, ())
            self.raised(InvalidField, row_product, value, None, None)
            self.raised(InvalidField, row_inverse, value, None)
            self.raised(InvalidField, row_moved, value, None, None)

    def test_lengths(self):
        for value in wrong_numbers() + [-1, 61]:
            for call in (plain_rows, across):
                self.raised_number(InvalidNumber, value, call, F2, value, None)
            self.raised_number(InvalidNumber, value, is_spanned, F2, value, None, ())

    def test_rows(self):
        for field, length in ((F2, 2), (F9, 2), (Field(5), 60)):
            for value in no_rows(field, length):
                for call in (plain_rows, across):
                    self.raised(InvalidOperation, call, field, length, value)
                self.raised(InvalidOperation, is_spanned, field, length, value, None)
            rows = ((0,) * length,) * 60
            self.assertEqual(plain_rows(field, length, rows), ())

    def test_one_row(self):
        wrong = [[1, 0], (1, True), (2, 0), (-1, 0), (1, "0"), (1, None), (0,) * 61, ((1, 0),), (LONG,), None, 1, "10"]
        wrong = wrong + [value for value in wrong_values() if value not in ((), (1,))]
        for value in wrong:
            self.raised(InvalidOperation, row_product, F2, value, (1, 0))
            self.raised(InvalidOperation, row_product, F2, value, value)
            self.raised(InvalidOperation, row_inverse, F2, value)
            self.raised(InvalidOperation, row_moved, F2, value, "x")
            self.raised(InvalidOperation, row_product, F2, (1, 0), value)
        for other in ((), (1,), (1, 0, 0)):
            self.raised(InvalidOperation, row_product, F2, (1, 0), other)
        self.raised(InvalidOperation, row_product, F2, (0,) * 61, (0,) * 61)

    def test_distances(self):
        for value in wrong_numbers():
            self.raised_number(InvalidNumber, value, row_moved, F2, (1, 0), value)


if __name__ == "__main__":
    unittest.main()
