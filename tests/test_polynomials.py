"""Promises [7.3], [7.4], [7.6] and [7.7], and the functions on polynomials."""
import cmath
import unittest
from math import gcd
from unittest.mock import patch

from slantways.count import tables as module
from slantways.count.tables import (
    MAX_ORDER, MAX_TERMS, at_turn, divided, quotient, times, turn_polynomial, value_at,
)
from slantways.errors import InvalidNumber, InvalidOperation, InvalidSlope, Refused, TooMany
from slantways.way.ways import Slope, way_count
from tests.helper import Case, small_sides, wrong_for, wrong_numbers, wrong_values

SIDES = [(rises, steps) for rises, steps in small_sides(13) if gcd(rises, steps) == 1]
SMALL = [(), (1,), (-1,), (3,), (0, 1), (1, 1), (-1, 1), (2, 0, -1), (0, 0, 1), (5, -3, 0, 2), (1, 2, 3, 4, 1)]
LONG = 10 ** 60


def own_product(one, other):
    """The product of two polynomials by the sums of [7.3], written with powers."""
    found = {}
    for at, factor in enumerate(one):
        for place, term in enumerate(other):
            found[at + place] = found.get(at + place, 0) + factor * term
    top = max([at for at in found if found[at] != 0], default=-1)
    return tuple(found[at] for at in range(top + 1))


def own_sum(one, other):
    """The sum of two polynomials."""
    size = max(len(one), len(other))
    terms = [sum(poly[at] for poly in (one, other) if at < len(poly)) for at in range(size)]
    while terms and terms[-1] == 0:
        terms.pop()
    return tuple(terms)


def no_polynomials():
    """Values that are no polynomials of at most 400 terms."""
    tuples = [(0,), (1, 0), (0, 0), (True,), (1, True), (False, 1), (LONG,), (1, -LONG), ("1",), (None,), ((1,),),
              (1,) * 401, (0,) * 400 + (1,), (1, [2])]
    others = [value for value in wrong_values() if not isinstance(value, tuple)]
    return tuples + others + [[1, 2], [], {0: 1}, "12"]


class ExamplesTest(Case):
    def test_polynomials(self):
        shown = [times((1, 1), (1, -1)), times((), (1, 2)), divided((1, 0, 0, 1), (1, 1)), divided((5,), (0, 1)),
                 value_at((1, 0, -2), 3)]
        self.assertEqual(shown, [(1, 0, -1), (), ((1, -1, 1), ()), ((), (5,)), -17])

    def test_turns(self):
        shown = [turn_polynomial(1), turn_polynomial(6), [at_turn(Slope(3, 5), order) for order in (1, 2, 4, 6)],
                 at_turn(Slope(5, 8), 7)]
        self.assertEqual(shown, [(-1, 1), (1, -1, 1), [7, 3, 1, 0], 1])
        self.raised_number(Refused, ("no integer", (0, -1)), at_turn, Slope(3, 4), 4)


class OperationsTest(Case):
    def test_times(self):
        for one in SMALL:
            for other in SMALL:
                self.same(times(one, other), own_product(one, other))
        self.assertEqual(len(times((1,) * 400, (1,) * 400)), 799)
        self.assertEqual(times((LONG - 1,), (LONG - 1,)), ((LONG - 1) ** 2,))

    def test_divided(self):
        for one in SMALL + [times(one, (1, 0, 2, -1)) for one in SMALL]:
            for other in SMALL:
                if other[-1:] in ((1,), (-1,)):
                    whole, rest = divided(one, other)
                    self.assertEqual(own_sum(own_product(whole, other), rest), one)
                    self.assertLess(len(rest), len(other))
                    self.assertIs(divided(one, other).__class__, tuple)
        self.assertEqual(divided((), (0, -1)), ((), ()))
        self.assertEqual(divided((1,) * 400, (1,)), ((1,) * 400, ()))
        self.assertEqual(divided((1,) * 400, (1,) * 400), ((1,), ()))

    def test_not_divided(self):
        for one in SMALL:
            self.raised_number(Refused, ("zero",), divided, one, ())
            for other in ((2,), (0, -2), (1, 1, 5), (0,) * 399 + (7,)):
                self.raised_number(Refused, ("lead", other[-1]), divided, one, other)

    def test_value(self):
        for one in SMALL:
            for x in (-3, -1, 0, 1, 2, 10 ** 30, LONG - 1, 1 - LONG):
                self.same(value_at(one, x), sum(term * x ** at for at, term in enumerate(one)))
        self.assertEqual(value_at((1,) * 400, 2), 2 ** 400 - 1)

    def test_long_results_are_refused(self):
        self.raised(InvalidOperation, times, times((LONG - 1,), (10,)), (1,))


class WrongTest(Case):
    def test_polynomials(self):
        for value in no_polynomials():
            for call in (times, divided):
                self.raised(InvalidOperation, call, value, (1,))
                self.raised(InvalidOperation, call, (1,), value)
                self.raised(InvalidOperation, call, value, ())
            self.raised(InvalidOperation, value_at, value, 1)
            self.raised(InvalidOperation, value_at, value, "x")

    def test_limit(self):
        self.same(MAX_TERMS, 400)
        self.assertEqual(value_at((1,) * 400, 1), 400)
        self.raised(InvalidOperation, value_at, (1,) * 401, 1)

    def test_numbers(self):
        for value in wrong_numbers():
            self.raised_number(InvalidNumber, value, value_at, (1, 2), value)
            self.raised_number(InvalidNumber, value, value_at, (), value)

    def test_orders(self):
        self.same(MAX_ORDER, 100)
        for value in wrong_numbers() + [0, -1, 101]:
            self.raised_number(InvalidNumber, value, turn_polynomial, value)
            self.raised_number(InvalidNumber, value, at_turn, Slope(4, 6), value)
            self.raised(InvalidSlope, at_turn, None, value)

    def test_slopes(self):
        for value in wrong_for(Slope):
            self.raised(InvalidSlope, quotient, value)
            self.raised(InvalidSlope, at_turn, value, 4)
        for rises, steps in ((2, 2), (4, 6), (60, 60), (60, 58)):
            kept = ("common", gcd(rises, steps))
            self.raised_number(Refused, kept, quotient, Slope(rises, steps))
            self.raised_number(Refused, kept, at_turn, Slope(rises, steps), 4)
        for rises, steps in ((17, 26), (26, 17), (60, 59), (21, 22), (8, 59)):
            self.raised_number(TooMany, 400, quotient, Slope(rises, steps))
            self.raised_number(TooMany, 400, at_turn, Slope(rises, steps), 100)


class QuotientTest(Case):
    def test_limit(self):
        with patch.object(module, "MAX_TERMS", 7):
            self.assertEqual(len(quotient(Slope(3, 4))), 7)
            self.raised_number(TooMany, 7, quotient, Slope(3, 5))
            self.raised_number(TooMany, 7, at_turn, Slope(3, 5), 1)

    def test_division(self):
        for rises, steps in SIDES:
            one = other = (1,)
            for size in range(1, rises + steps):
                one = own_product(one, (1,) * size)
            for size in list(range(1, rises + 1)) + list(range(1, steps + 1)):
                other = own_product(other, (1,) * size)
            self.assertEqual(own_product(quotient(Slope(rises, steps)), other), one)

    def test_shape(self):
        for rises, steps in SIDES + [(1, 60), (60, 1), (2, 59), (12, 37), (37, 12), (20, 21), (7, 60)]:
            slope = Slope(rises, steps)
            found = quotient(slope)
            self.assertEqual(len(found), 2 * slope.half + 1)
            self.assertEqual(found, found[::-1])
            self.assertGreaterEqual(min(found), 0)
            self.assertEqual(sum(found), way_count(slope))
            self.assertEqual(found, quotient(slope.exchanged()))


class TurnTest(Case):
    def test_turn_polynomials(self):
        found = {order: turn_polynomial(order) for order in range(1, 101)}
        self.assertEqual([found[1], found[2], found[4]], [(-1, 1), (1, 1), (1, 0, 1)])
        for order in found:
            product = (1,)
            for lesser in range(1, order + 1):
                if order % lesser == 0:
                    product = own_product(product, found[lesser])
            self.assertEqual(product, (-1,) + (0,) * (order - 1) + (1,))
            self.assertEqual(found[order][-1], 1)
            # As many primitive roots as numbers below the order without a common part with it.
            self.assertEqual(len(found[order]) - 1, sum(1 for k in range(1, order + 1) if gcd(k, order) == 1))

    def test_values_at_roots(self):
        for rises, steps in SIDES:
            found = quotient(Slope(rises, steps))
            for order in range(1, 2 * rises + 2 * steps):
                root = cmath.exp(2j * cmath.pi / order)
                value = sum(term * root ** at for at, term in enumerate(found))
                try:
                    told = at_turn(Slope(rises, steps), order)
                except Refused as refused:
                    word, rest = refused.reason
                    self.assertEqual((word, rest), ("no integer", divided(found, turn_polynomial(order))[1]))
                    self.assertGreater(len(rest), 1)
                    left = sum(term * root ** at for at, term in enumerate(rest))
                    self.assertAlmostEqual(abs(left - value), 0, places=6)
                else:
                    self.assertIs(told.__class__, int)
                    self.assertAlmostEqual(abs(value - told), 0, places=6)

    def test_orders_that_divide(self):
        for rises, steps in SIDES + [(12, 37), (20, 21), (7, 60)]:
            for order in range(1, 101):
                if (rises - 1) % order == 0 or (steps - 1) % order == 0:
                    self.assertGreaterEqual(at_turn(Slope(rises, steps), order), 0)

    def test_far_orders(self):
        self.assertEqual(at_turn(Slope(1, 60), 100), 1)
        self.assertEqual(at_turn(Slope(3, 4), 1), 5)
        self.raised_number(Refused, ("no integer", (0, -1, 0, 0, 0, -1)), at_turn, Slope(3, 4), 7)


if __name__ == "__main__":
    unittest.main()
