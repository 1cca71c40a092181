"""mirrorbook/polynomials.py: [3.1] Polynomials."""

import unittest
from fractions import Fraction
from random import Random

from mirrorbook.errors import BadPolynomial
from mirrorbook.polynomials import (
    is_polynomial,
    minus,
    plus,
    power,
    scaled,
    times,
    trimmed,
    value,
    value_at,
)
from tests.samples import GREAT, Case, any_values, is_int, others

INTEGERS = (0, 1, -1, 2, -7, 10**11 + 3, -(10**11))
NUMBERS = ((0, 1), (0, 6), (1, 2), (2, 4), (-3, 9), (7, 1), (-10, 4), (-14, 2), (10**12, 3 * 10**11), (5, 10**12))
GREAT_POLYNOMIALS = (
    tuple(GREAT - at for at in range(20)),
    tuple((-1) ** at * (GREAT - 5 * at) for at in range(20)),
)
POLYNOMIALS = (
    (),
    (1,),
    (-4,),
    (0, 1),
    (1, 1),
    (-1, 1),
    (6, -5, 1),
    (0, 0, 0, 2),
    (0, -2, 0, 0, 7),
    (2, -3, 1),
    (-2, 3, -1),
    *GREAT_POLYNOMIALS,
)


def fits(thing):
    return type(thing) is tuple and all(map(is_int, thing)) and not (thing and thing[-1] == 0)


def fits_coefficients(thing):
    return type(thing) is tuple and all(map(is_int, thing))


def no_polynomials():
    more = [(0,), (1, 0), (0, 0), (True,), (1, True), (False, 1), (1, (1,)), (1, None), ("1",), [1], (1, 2, [3])]
    return more + [GREAT_POLYNOMIALS[0] + (0,), GREAT_POLYNOMIALS[0] + (True,)] + others(fits)


def value_of(coefficients, number):
    return sum((coefficient * number**at for at, coefficient in enumerate(coefficients)), Fraction(0))


class Forms(Case):
    def test_is_polynomial(self):
        for one in POLYNOMIALS:
            self.assert_call(True, is_polynomial, thing=one)
            self.assert_call(False, is_polynomial, thing=list(one))
            self.assert_call(False, is_polynomial, thing=one + (0,))
            self.assert_call(False, is_polynomial, thing=one + (True,))
            self.assert_call(False, is_polynomial, thing=(False,) + one)
        for thing in no_polynomials():
            self.assert_call(False, is_polynomial, thing=thing)
        for thing in any_values():
            self.assert_call(fits(thing), is_polynomial, thing=thing)

    def test_trimmed(self):
        for one in POLYNOMIALS:
            for many in range(4):
                self.assert_call(one, trimmed, coefficients=one + (0,) * many)
        self.assert_call((), trimmed, coefficients=(0,) * 300)

    def test_trimmed_of_no_integers(self):
        more = [(True,), (1, False), (1, 0, [0]), (0, (0,)), [1, 0], (None, 0)]
        for thing in more + others(fits_coefficients):
            self.assert_error(BadPolynomial(thing), trimmed, coefficients=thing)


class SumsAndProducts(Case):
    def assert_values(self, found, wanted):
        """The polynomial has these values at so many integers that no other one of its length has them."""
        self.assertTrue(fits(found), found)
        for integer in range(-22, 23):
            self.assertEqual(value_of(found, integer), wanted(integer))

    def test_two_polynomials(self):
        for one in POLYNOMIALS:
            for other in POLYNOMIALS:
                self.assert_values(plus(one, other), lambda at: value_of(one, at) + value_of(other, at))
                self.assert_values(minus(one, other), lambda at: value_of(one, at) - value_of(other, at))
                self.assert_values(times(one, other), lambda at: value_of(one, at) * value_of(other, at))
                self.assertEqual(len(times(one, other)), len(one) + len(other) - 1 if one and other else 0)

    def test_what_cancels(self):
        for one in POLYNOMIALS:
            self.assert_call((), minus, one=one, other=one)
            self.assert_call((), plus, one=one, other=tuple(-item for item in one))
            self.assert_call((), times, one=one, other=())
            self.assert_call((), times, one=(), other=one)
            self.assert_call((), scaled, integer=0, one=one)
        self.assert_call((1,), plus, one=(0, 2, 3), other=(1, -2, -3))
        self.assert_call((0, 0, 1), minus, one=(1, 1, 1, 1), other=(1, 1, 0, 1))

    def test_by_position_and_by_name(self):
        self.assert_call((3, 4, 3), plus, one=(1, 2, 3), other=(2, 2))
        self.assert_call((-1, 0, 3), minus, one=(1, 2, 3), other=(2, 2))
        self.assert_call((2, 6, 10, 6), times, one=(1, 2, 3), other=(2, 2))
        self.assert_call((-2, -4, -6), scaled, integer=-2, one=(1, 2, 3))
        self.assert_call((1, 4, 4), power, one=(1, 2), many=2)

    def test_scaled(self):
        for one in POLYNOMIALS:
            for integer in (*INTEGERS, GREAT):
                self.assert_values(scaled(integer, one), lambda at: integer * value_of(one, at))

    def test_power(self):
        for one in POLYNOMIALS:
            wanted = (1,)
            for many in range(21):
                if many < 4 or one not in GREAT_POLYNOMIALS:
                    self.assert_call(wanted, power, one=one, many=many)
                    wanted = times(wanted, one)
        self.assert_call((1,), power, one=(), many=0)
        self.assert_call((), power, one=(), many=1)
        self.assert_call((), power, one=(), many=20)

    def test_great_power(self):
        found = power(GREAT_POLYNOMIALS[0], 20)
        self.assertEqual(len(found), 381)
        self.assertEqual(sum(found), sum(GREAT_POLYNOMIALS[0]) ** 20)


class Values(Case):
    def test_value(self):
        for one in POLYNOMIALS:
            for integer in INTEGERS:
                wanted = int(value_of(one, integer))
                self.assert_call(wanted, value, one=one, integer=integer)

    def test_value_at(self):
        for one in POLYNOMIALS:
            for number in NUMBERS:
                wanted = value_of(one, Fraction(*number))
                self.assert_call((wanted.numerator, wanted.denominator), value_at, one=one, number=number)

    def test_zero_and_whole_numbers(self):
        self.assert_call((0, 1), value_at, one=(), number=(5, 10))
        self.assert_call((0, 1), value_at, one=(-1, 2), number=(5, 10))
        self.assert_call((7, 1), value_at, one=(7,), number=(-3, 6))
        self.assert_call((-1, 2), value_at, one=(0, 1), number=(-5, 10))
        self.assert_call((2, 1), value_at, one=(1, 0, 4), number=(-3, 6))

    def test_great_random_ones(self):
        random = Random(80)
        for _ in range(20):
            one = trimmed(tuple(random.randrange(-GREAT, GREAT) for _ in range(20)))
            top, bottom = random.randrange(-(10**12), 10**12), random.randrange(1, 10**12)
            wanted = value_of(one, Fraction(top, bottom))
            self.assert_call((wanted.numerator, wanted.denominator), value_at, one=one, number=(top, bottom))
            self.assert_call(int(value_of(one, top)), value, one=one, integer=top)


class WrongArguments(Case):
    def test_the_first_that_is_no_polynomial(self):
        for thing in no_polynomials():
            error = BadPolynomial(thing)
            for call in (plus, minus, times):
                self.assert_error(error, call, one=thing, other=(1,))
                self.assert_error(error, call, one=(1,), other=thing)
                self.assert_error(error, call, one=thing, other=(0,))
                self.assert_error(error, call, one=thing, other=None)
            self.assert_error(error, scaled, integer=3, one=thing)
            self.assert_error(error, scaled, integer=0, one=thing)
            self.assert_error(error, power, one=thing, many=0)
            self.assert_error(error, power, one=thing, many=3)
            self.assert_error(error, value, one=thing, integer=2)
            self.assert_error(error, value_at, one=thing, number=(1, 2))


if __name__ == "__main__":
    unittest.main()
