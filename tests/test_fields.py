"""Promises [8.1] to [8.3], and the class Field."""
import unittest

from slantways.errors import InvalidNumber, Refused
from slantways.room.fields import MAX_LENGTH, MAX_ROWS, SIZES, Field
from tests.helper import Case, wrong_for, wrong_numbers, wrong_values

PRIMES = {2: 2, 3: 3, 4: 2, 5: 5, 7: 7, 8: 2, 9: 3}
FIELDS = [Field(size) for size in PRIMES]
LONG = 10 ** 60


def digits_of(element, prime):
    """The digits of an element, the lowest one first, three of them."""
    return [element // prime ** place % prime for place in range(3)]


class ExamplesTest(Case):
    def test_arithmetic(self):
        four, nine = Field(4), Field(9)
        shown = [four.plus(2, 3), four.times(2, 2), four.times(2, 3), four.inverse(3), nine.plus(5, 7),
                 nine.times(3, 3), nine.over(1, 3), nine.negative(4)]
        self.assertEqual(shown, [1, 3, 1, 2, 0, 2, 6, 8])

    def test_powers(self):
        nine = Field(9)
        shown = [Field(7).primitive, nine.primitive, Field(8).primitive, nine.order(3), nine.power(3, -1),
                 Field(4).power(0, 0), nine.prime, str(nine), 9 in nine, True in Field(2)]
        self.assertEqual(shown, [3, 4, 2, 4, 6, 1, 3, "field of 9", False, False])

    def test_zero(self):
        self.raised_number(Refused, ("zero",), Field(9).over, 5, 0)


class SizesTest(Case):
    def test_constants(self):
        self.same(SIZES, (2, 3, 4, 5, 7, 8, 9))
        self.same((MAX_LENGTH, MAX_ROWS), (60, 60))

    def test_fields(self):
        for size, field in zip(PRIMES, FIELDS):
            self.same(field.size, size)
            self.same(field.prime, PRIMES[size])
            self.same(field.members, tuple(range(size)))
            self.assertEqual((list(field), list(field), len(field)), (list(range(size)),) * 2 + (size,))
            self.same(str(field), f"field of {size}")

    def test_wrong_sizes(self):
        for value in wrong_values() + [6, 10, 11, 16, -2, LONG]:
            if value.__class__ is not int or value not in PRIMES:
                self.raised_number(InvalidNumber, value, Field, value)

    def test_members(self):
        for field in FIELDS:
            for value in wrong_values() + list(range(-2, 12)) + [(0,), [0], "0"]:
                inside = value.__class__ is int and 0 <= value < field.size
                self.assertIs(value in field, inside)
                self.assertIs(value not in field, not inside)


class ArithmeticTest(Case):
    def test_sums_of_digits(self):
        for field in FIELDS:
            for x in field:
                for y in field:
                    one, other = digits_of(x, field.prime), digits_of(y, field.prime)
                    both = [(d + e) % field.prime for d, e in zip(one, other)]
                    self.same(field.plus(x, y), sum(d * field.prime ** at for at, d in enumerate(both)))
                    self.same(field.plus(field.minus(x, y), y), x)
                    self.same(field.minus(x, y), field.plus(x, field.negative(y)))

    def test_products(self):
        # Together with the rules of sums these tell all products.
        for field in FIELDS:
            if field.size == field.prime:
                for x in field:
                    self.assertEqual([field.times(x, y) for y in field], [x * y % field.size for y in field])
        four, eight, nine = Field(4), Field(8), Field(9)
        self.assertEqual(four.times(2, 2), four.plus(2, 1))
        self.assertEqual(eight.times(2, 2), 4)
        self.assertEqual(eight.times(2, 4), eight.plus(2, 1))
        self.assertEqual(nine.times(3, 3), 2)

    def test_rules(self):
        for field in FIELDS:
            plus, times = field.plus, field.times
            for x in field:
                self.assertEqual((plus(x, 0), times(x, 1), times(x, 0)), (x, x, 0))
                self.assertEqual([y for y in field if plus(x, y) == 0], [field.negative(x)])
                if x > 0:
                    self.assertEqual([y for y in field if times(x, y) == 1], [field.inverse(x)])
                for y in field:
                    self.assertEqual((plus(x, y), times(x, y)), (plus(y, x), times(y, x)))
                    for z in field:
                        self.assertEqual(plus(plus(x, y), z), plus(x, plus(y, z)))
                        self.assertEqual(times(times(x, y), z), times(x, times(y, z)))
                        self.assertEqual(times(x, plus(y, z)), plus(times(x, y), times(x, z)))

    def test_quotients(self):
        for field in FIELDS:
            for x in field:
                for y in field.members[1:]:
                    self.same(field.over(x, y), field.times(x, field.inverse(y)))
                    self.same(field.times(field.over(x, y), y), x)

    def test_powers(self):
        for field in FIELDS:
            for x in field.members[1:]:
                power = 1
                for number in range(20):
                    self.same(field.power(x, number), power)
                    self.same(field.power(x, -number), field.inverse(power))
                    power = field.times(power, x)
                self.assertEqual(field.power(x, LONG - 1), field.power(x, (LONG - 1) % (field.size - 1)))
                self.assertEqual(field.power(x, 1 - LONG), field.inverse(field.power(x, LONG - 1)))
            self.assertEqual([field.power(0, number) for number in (0, 1, 2, LONG - 1)], [1, 0, 0, 0])
            for number in (-1, -2, 1 - LONG):
                self.raised_number(Refused, ("zero",), field.power, 0, number)

    def test_orders(self):
        for field in FIELDS:
            for x in field.members[1:]:
                order = next(k for k in range(1, 10) if field.power(x, k) == 1)
                self.same(field.order(x), order)
                self.assertEqual((field.size - 1) % order, 0)
            full = [x for x in field.members[1:] if field.order(x) == field.size - 1]
            self.same(field.primitive, min(full))

    def test_power_to_the_prime(self):
        for field in FIELDS:
            for x in field:
                for y in field:
                    powers = field.plus(field.power(x, field.prime), field.power(y, field.prime))
                    self.assertEqual(field.power(field.plus(x, y), field.prime), powers)


class WrongTest(Case):
    def test_elements(self):
        for field in FIELDS:
            for value in wrong_numbers() + [-1, field.size, field.size + 5]:
                for call in (field.plus, field.minus, field.times, field.over):
                    self.raised_number(InvalidNumber, value, call, value, 1)
                    self.raised_number(InvalidNumber, value, call, 1, value)
                    self.raised_number(InvalidNumber, value, call, value, -7)
                    self.raised_number(InvalidNumber, value, call, value, 0)
                for call in (field.negative, field.inverse, field.order):
                    self.raised_number(InvalidNumber, value, call, value)
                self.raised_number(InvalidNumber, value, field.power, value, "x")
                self.raised_number(InvalidNumber, value, field.power, value, 2)

    def test_exponents(self):
        for field in FIELDS:
            for value in wrong_numbers():
                self.raised_number(InvalidNumber, value, field.power, 0, value)
                self.raised_number(InvalidNumber, value, field.power, 1, value)

    def test_zero(self):
        for field in FIELDS:
            for call in (field.inverse, field.order):
                self.raised_number(Refused, ("zero",), call, 0)
            for x in field:
                self.raised_number(Refused, ("zero",), field.over, x, 0)


class ObjectTest(Case):
    def test_equal(self):
        for one in FIELDS:
            for size in PRIMES:
                self.assertIs(one == Field(size), one.size == size)
                self.assertIs(one != Field(size), one.size != size)
            for value in wrong_for(Field):
                self.assertIs(one == value, False)
                self.assertIs(one != value, True)

    def test_never_changes(self):
        field = Field(9)
        for name in ("size", "prime", "members", "primitive"):
            with self.assertRaises(AttributeError):
                setattr(field, name, 2)
        self.assertEqual((field.size, field.prime, field.primitive), (9, 3, 4))

    def test_other_operators(self):
        field = Field(3)
        for call in (lambda: field + field, lambda: field < field, lambda: field[0], lambda: field | field):
            self.raised(TypeError, call)


if __name__ == "__main__":
    unittest.main()
