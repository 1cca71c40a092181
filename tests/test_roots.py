"""mirrorbook/roots.py: [6.5] Odd and even parts, [6.6] Corner numbers, how many roots there are."""

import unittest
from fractions import Fraction
from random import Random

from mirrorbook.chances import return_poly
from mirrorbook.errors import BadNumber, BadPolynomial
from mirrorbook.polynomials import is_polynomial
from mirrorbook.roots import corners, many_roots, parts_of
from tests import counting, rankings, rooting
from tests.rooting import FACTORS, NoRoot, Rational
from tests.samples import GREAT, Case, is_int, others

CONTENTS = (1, -1, 2, -12, 35)
ENDS = tuple(
    Fraction(top, bottom) for top, bottom in ((-3, 1), (-1, 1), (0, 1), (1, 3), (1, 2), (3, 4), (1, 1), (7, 2))
)
NO_POLYNOMIALS = [(0,), (1, 0), (), [1], (True,), (1, True), (1, None)]
NO_POLYNOMIALS += others(lambda thing: is_polynomial(thing) and thing != ())


def is_number(thing):
    return type(thing) is tuple and len(thing) == 2 and all(map(is_int, thing)) and thing[1] >= 1


def no_numbers():
    near = [
        (1, 0),
        (0, 0),
        (1, -1),
        (-1, -2),
        (1, True),
        (True, 1),
        (1,),
        (1, 2, 3),
        [1, 2],
        1,
        "1/2",
        (None, 1),
        (0, (1,)),
    ]
    return near + others(is_number)


def as_pair(fraction, times=1):
    """A fraction as a number with a common divisor."""
    return (fraction.numerator * times, fraction.denominator * times)


def random_polynomial(random, degree, digits=6):
    found = [random.randrange(-(10**digits) + 1, 10**digits) for _ in range(degree)]
    return tuple(found) + (random.choice((-1, 1)) * random.randrange(1, 10**digits),)


def shared(one, other):
    """Whether two polynomials have a common root, complex ones too, by their greatest common divisor."""
    left, right = [Fraction(part) for part in one], [Fraction(part) for part in other]
    while right:
        while len(left) >= len(right):
            factor = left[-1] / right[-1]
            ahead = len(left) - len(right)
            left = [part - (factor * right[at - ahead] if at >= ahead else 0) for at, part in enumerate(left)][:-1]
        while left and left[-1] == 0:
            left.pop()
        left, right = right, left
    return len(left) > 1


class Parts(Case):
    def assert_parts(self, polynomial):
        found = parts_of(polynomial)
        content, odd, even = found
        self.assertTrue(is_int(content) and is_polynomial(odd) and is_polynomial(even))
        self.assertEqual(content, rooting.content(polynomial))
        self.assertEqual((rooting.content(odd), rooting.content(even)), (1, 1))
        whole = counting.scale(content, counting.multiply(odd, counting.multiply(even, even)))
        self.assertEqual(whole, polynomial)
        slope = tuple(at * part for at, part in enumerate(odd))[1:]
        self.assertFalse(slope and shared(odd, slope), polynomial)
        self.assert_call(found, parts_of, polynomial=polynomial)

    def test_products_of_drawn_factors(self):
        for factors in rooting.drawn(1, 250, 8) + rooting.drawn(2, 50, 14):
            for content in CONTENTS[:2] if len(factors) > 2 else CONTENTS:
                polynomial = rooting.product(content, factors)
                odd = rooting.product(1, [(one, many % 2) for one, many in factors])
                even = rooting.product(1, [(one, many // 2) for one, many in factors])
                self.assert_call((content, odd, even), parts_of, polynomial=polynomial)
                self.assert_parts(polynomial)

    def test_any_polynomials(self):
        random = Random(3)
        for degree in range(9):
            for _ in range(15):
                one = random_polynomial(random, degree)
                self.assert_parts(one)
                self.assert_parts(counting.multiply(one, random_polynomial(random, 2, 1)))
                self.assert_parts(counting.multiply(one, one))

    def test_constants_and_powers_of_the_unknown(self):
        for content in (1, -1, 6, -999999, GREAT):
            self.assert_call((content, (1,), (1,)), parts_of, polynomial=(content,))
            for degree in range(1, 12):
                wanted = (content, ((1,), (0, 1))[degree % 2], (0,) * (degree // 2) + (1,))
                self.assert_call(wanted, parts_of, polynomial=(0,) * degree + (content,))

    def test_returns_of_tables(self):
        for table in rankings.small_tables() + rankings.great_tables() + counting.eight_tables():
            self.assert_parts(return_poly(table))

    def test_errors(self):
        self.assert_errors(parts_of, {"polynomial": (1,)}, [("polynomial", BadPolynomial, NO_POLYNOMIALS)])


class Roots(Case):
    def test_products_of_drawn_factors(self):
        for number, factors in enumerate(rooting.drawn(4, 150, 8)):
            polynomial = rooting.product(CONTENTS[number % 5], factors)
            for low in ENDS:
                for high in ENDS:
                    if low < high:
                        wanted = sum(one.many_between(low, high) for one, _ in factors)
                        found = many_roots(polynomial, as_pair(low), as_pair(high, 6))
                        self.assert_same(found, wanted)

    def test_each_factor_alone_and_many_times(self):
        for one in FACTORS:
            for many in (1, 2, 3):
                polynomial = rooting.product(-3, [(one, many)])
                for low in ENDS:
                    for high in ENDS:
                        if low < high:
                            wanted = one.many_between(low, high)
                            given = {"polynomial": polynomial, "low": as_pair(low, 2), "high": as_pair(high)}
                            self.assert_call(wanted, many_roots, **given)

    def test_roots_at_the_ends_and_beside_them(self):
        for root in (Fraction(0), Fraction(1), Fraction(1, 3), Fraction(-5, 7)):
            for polynomial in (
                rooting.product(2, [(Rational(root.numerator, root.denominator), 1)]),
                rooting.product(2, [(Rational(root.numerator, root.denominator), 2), (NoRoot((1, 0, 1)), 1)]),
                rooting.product(-1, [(Rational(root.numerator, root.denominator), 3), (Rational(9, 1), 1)]),
            ):
                for far in (Fraction(1, 10**19), Fraction(1, 3)):
                    self.assert_same(many_roots(polynomial, as_pair(root - far), as_pair(root)), 0)
                    self.assert_same(many_roots(polynomial, as_pair(root), as_pair(root + far)), 0)
                    self.assert_same(many_roots(polynomial, as_pair(root - far), as_pair(root + far)), 1)

    def test_close_roots(self):
        close = [(Rational(500, 999), 1), (Rational(499, 997), 2), (Rational(1, 2), 1)]
        polynomial = rooting.product(1, close)
        self.assert_same(many_roots(polynomial, (0, 1), (1, 1)), 3)
        self.assert_same(many_roots(polynomial, (1, 2), (500, 999)), 0)
        self.assert_same(many_roots(polynomial, (1, 2), (499, 997)), 1)

    def test_signs_of_any_polynomials(self):
        """Stretches with unlike signs at their ends have an odd number of roots that are not doubled."""
        random = Random(5)
        for degree in range(1, 9):
            for _ in range(10):
                polynomial = random_polynomial(random, degree)
                ends = [Fraction(at, 16) for at in range(-20, 21)]
                signs = [rooting.sign(rooting.value_of(polynomial, end)) for end in ends]
                if 0 in signs or parts_of(polynomial)[2] != (1,):
                    continue
                total = 0
                for at in range(40):
                    found = many_roots(polynomial, as_pair(ends[at]), as_pair(ends[at + 1]))
                    self.assertEqual(found % 2, int(signs[at] != signs[at + 1]))
                    total += found
                self.assertEqual(many_roots(polynomial, as_pair(ends[0]), as_pair(ends[-1])), total)
                self.assertLessEqual(total, degree)

    def test_constants(self):
        for polynomial in ((1,), (-7,), (GREAT,)):
            self.assert_call(0, many_roots, polynomial=polynomial, low=(-5, 1), high=(GREAT, 2))


class Corners(Case):
    STRETCHES = (
        (-3, 1, -1, 2),
        (0, 1, 1, 1),
        (0, 6, 2, 4),
        (-4, 6, 10, 15),
        (1, 3, 1, 2),
        (-7, 7, 0, 9),
        (5, 1, 99, 2),
    )

    def test_any_polynomials(self):
        random = Random(6)
        for degree in range(10):
            for _ in range(4):
                polynomial = random_polynomial(random, degree)
                for a, b, c, d in self.STRETCHES:
                    found = corners(polynomial, (a, b), (c, d))
                    wanted = rooting.corners(polynomial, Fraction(a, b), Fraction(c, d))
                    wanted = tuple((number.numerator, number.denominator) for number in wanted)
                    self.assert_same(found, wanted)
                    self.assert_call(wanted, corners, polynomial=polynomial, low=(a, b), high=(c, d))

    def test_values_lie_between_the_least_and_the_greatest(self):
        random = Random(7)
        for degree in range(9):
            polynomial = random_polynomial(random, degree)
            for a, b, c, d in self.STRETCHES:
                numbers = [Fraction(*number) for number in corners(polynomial, (a, b), (c, d))]
                low, high = Fraction(a, b), Fraction(c, d)
                for at in range(8):
                    value = rooting.value_of(polynomial, low + (high - low) * Fraction(at, 7))
                    self.assertTrue(min(numbers) <= value <= max(numbers))
                ends = (rooting.value_of(polynomial, low), rooting.value_of(polynomial, high))
                self.assertEqual((numbers[0], numbers[-1]), ends)

    def test_constants(self):
        for constant in (1, -7, GREAT):
            self.assert_call(((constant, 1),), corners, polynomial=(constant,), low=(-4, 6), high=(1, 5))

    def test_numbers_of_twenty_digits(self):
        low, high = (-(10**20) + 1, 10**20 - 3), (10**20 - 1, 10**20 - 7)
        polynomial = (999999, -999999, 0, 0, 0, 0, 0, 123456, -999999)
        wanted = rooting.corners(polynomial, Fraction(*low), Fraction(*high))
        wanted = tuple((number.numerator, number.denominator) for number in wanted)
        self.assert_call(wanted, corners, polynomial=polynomial, low=low, high=high)
        factors = [
            (Rational(1, 1), 1),
            (Rational(-1, 1), 2),
            (NoRoot((1, 1, 1)), 1),
            (Rational(10**5, 10**5 - 1), 1),
        ]
        self.assert_same(many_roots(rooting.product(3, factors), low, high), 1 + int(Fraction(*low) < -1))

    def test_worked_out(self):
        self.assert_call(((3, 1), (0, 1)), corners, polynomial=(3, -3), low=(0, 1), high=(1, 1))
        # 1 - 4 u + 4 u u: 1, 1 - 2, 1 - 4 + 4.
        self.assert_call(((1, 1), (-1, 1), (1, 1)), corners, polynomial=(1, -4, 4), low=(0, 1), high=(1, 1))
        self.assert_call(((0, 1), (0, 1), (1, 4)), corners, polynomial=(0, 0, 1), low=(0, 3), high=(2, 4))


class Errors(Case):
    def test_polynomials_and_numbers(self):
        for call in (many_roots, corners):
            checks = [
                ("polynomial", BadPolynomial, NO_POLYNOMIALS),
                ("low", BadNumber, no_numbers()),
                ("high", BadNumber, no_numbers()),
            ]
            self.assert_errors(call, {"polynomial": (2, 0, 1), "low": (-1, 2), "high": (5, 6)}, checks)

    def test_low_has_to_be_less_than_high(self):
        for call in (many_roots, corners):
            for low, high in (
                ((1, 2), (1, 2)),
                ((1, 2), (3, 6)),
                ((2, 3), (3, 5)),
                ((0, 5), (0, 1)),
                ((0, 1), (-1, 9)),
            ):
                self.assert_error(BadNumber(high), call, polynomial=(1,), low=low, high=high)
                self.assert_error(BadPolynomial(()), call, polynomial=(), low=low, high=high)
            for wrong in no_numbers():
                # What is wrong with low comes first, also where low is not less than high.
                self.assert_error(BadNumber(wrong), call, polynomial=(1,), low=wrong, high=(-9, 1))
                self.assert_error(BadNumber(wrong), call, polynomial=(1,), low=(9, 1), high=wrong)


if __name__ == "__main__":
    unittest.main()
