"""mirrorbook/compared.py: [6.7] Never worse (what is judged), [6.8] Crossings."""

import unittest
from fractions import Fraction
from random import Random

from mirrorbook.chances import return_poly
from mirrorbook.compared import crossing, crossings, first_sign, judge_never_worse, never_worse_holds
from mirrorbook.errors import BadNumber, BadPolynomial
from mirrorbook.polynomials import is_polynomial, minus
from tests import counting, rankings, rooting
from tests.rooting import NoRoot, Rational, Square
from tests.samples import GREAT, Case, is_int, others, same

NO_POLYNOMIALS = [(0,), (1, 0), [1], (True,), (1, True), (1, None), *others(is_polynomial)]
CLOSE = [(Rational(1, 2), 1), (Rational(500, 999), 1)]
# Differences whose signs are known: they touch zero inside, at the ends, between close roots, or do not at all.
TOUCHING = (
    ((3,), True),
    ((-3,), False),
    ((0, 1), True),
    ((0, -1), False),
    ((1, -1), True),
    ((-1, 1), False),
    ((0, 1, -1), True),
    ((0, -1, 1), False),
    (rooting.product(1, [(Rational(1, 2), 2)]), True),
    (rooting.product(-1, [(Rational(1, 2), 2)]), False),
    (rooting.product(7, [(Rational(1, 3), 4), (Rational(3, 8), 2), (Rational(0, 1), 1)]), True),
    (rooting.product(1, [(Square(1, 2), 2), (Square(1, 3), 2)]), True),
    (rooting.product(1, [(Square(1, 2), 2), (Square(1, 3), 1)]), False),
    (rooting.product(-2, [(Square(1, 2), 2), (Square(1, 3), 2)]), False),
    (rooting.product(1, CLOSE), False),
    (rooting.product(-1, CLOSE), False),
    (rooting.product(1, [(one, 2) for one, _ in CLOSE]), True),
    (rooting.product(1, [*CLOSE, (Rational(1001, 2000), 4)]), False),
    (rooting.product(1, [(Rational(1, 2), 2), (NoRoot((1, 1, 1)), 1)]), True),
    # No real root, but two complex ones close to 1/2.
    ((250001, -1000000, 1000000), True),
    # x^8 + (999 x - 1)^2, x^8 - (999 x - 1)^2, and the same the other way round.
    ((1, -1998, 998001, 0, 0, 0, 0, 0, 1), True),
    ((-1, 1998, -998001, 0, 0, 0, 0, 0, 1), False),
    ((1, -1998, 998001, 0, 0, 0, 0, 0, -1), False),
    ((0, 0, 1), True),
    ((0, 0, -1), False),
    ((1, -2, 1), True),
)


def splits(difference):
    """Some pairs of polynomials with this difference."""
    for other in ((), (1,), (5, -7, 0, 0, 11), (0, 0, 0, 0, 0, 0, 0, 0, 999999), difference):
        yield counting.add([difference, other]), other


def is_right(one, other, paper):
    """Whether a paper shows what it says, by exact numbers, with all numbers in lowest terms."""
    difference = minus(one, other)
    if paper[0] == "worse":
        number = Fraction(*paper[1])
        right = 0 <= number <= 1 and rooting.value_of(one, number) < rooting.value_of(other, number)
        return right and same(paper, ("worse", (number.numerator, number.denominator)))
    kind, odd, even, points = paper
    fractions = [Fraction(*number) for number in points]
    if not same(points, tuple((number.numerator, number.denominator) for number in fractions)):
        return False
    if kind != "never worse" or counting.multiply(odd, counting.multiply(even, even)) != difference:
        return False
    if fractions != sorted(set(fractions)) or (fractions[0], fractions[-1]) != (0, 1):
        return False
    if difference == ():
        return min(len(odd), len(even)) == 0 and max(len(odd), len(even)) <= 40
    return all(min(rooting.corners(odd, low, high)) >= 0 for low, high in zip(fractions, fractions[1:]))


class Judged(Case):
    def assert_judged(self, one, other, wanted=None):
        paper = judge_never_worse(one, other)
        self.assertTrue(is_right(one, other, paper), (one, other, paper))
        self.assertTrue(never_worse_holds(one, other, paper))
        if wanted is not None:
            self.assertEqual(paper[0], ("worse", "never worse")[wanted], (one, other))
        self.assert_call(paper, judge_never_worse, one=one, other=other)
        return paper

    def test_differences_that_touch_zero(self):
        for difference, wanted in TOUCHING:
            for one, other in splits(difference):
                self.assert_judged(one, other, wanted)

    def test_equal_ones(self):
        for one in ((), (1,), (-5, 3), (999999,) * 9):
            self.assert_judged(one, one, True)
            self.assertEqual(len(judge_never_worse(one, one)[3]), 2)

    def test_products_of_drawn_factors(self):
        for number, factors in enumerate(rooting.drawn(8, 200, 8)):
            for content in (1, -1):
                difference = rooting.product(content, factors)
                odd = [one for one, many in factors if many % 2]
                inside = sum(one.many_between(0, 1) for one in odd)
                # Without a change of sign inside, a number that is no root tells.
                free = [at for at in (Fraction(at, 97) for at in range(1, 97)) if rooting.value_of(difference, at)]
                wanted = inside == 0 and rooting.value_of(difference, free[0]) > 0
                one, other = list(splits(difference))[number % 5]
                self.assert_judged(one, other, wanted)

    def test_any_polynomials(self):
        random = Random(9)
        for degree in range(9):
            for _ in range(40):
                one = counting.trim(random.randrange(-(10**6) + 1, 10**6) for _ in range(degree + 1))
                other = counting.trim(random.randrange(-(10**6) + 1, 10**6) for _ in range(random.randrange(9)))
                kinds = {self.assert_judged(one, other)[0], self.assert_judged(other, one)[0]}
                self.assertIn("worse", kinds)

    def test_returns_of_tables(self):
        tables = rankings.small_tables() + rankings.great_tables() + counting.eight_tables()
        polynomials = sorted({return_poly(table) for table in tables})
        random = Random(10)
        for one in polynomials:
            for other in random.sample(polynomials, 12):
                paper = self.assert_judged(one, other)
                if paper[0] == "never worse":
                    for at in range(65):
                        number = Fraction(at, 64)
                        self.assertGreaterEqual(rooting.value_of(one, number), rooting.value_of(other, number))

    def test_more_coefficients_than_needed(self):
        for degree in (9, 15, 19):
            random = Random(degree)
            one = counting.trim(random.randrange(1, 10**40) for _ in range(degree + 1))
            self.assert_judged(one, (), True)
            self.assert_judged((), one, False)

    def test_errors(self):
        checks = [("one", BadPolynomial, NO_POLYNOMIALS), ("other", BadPolynomial, NO_POLYNOMIALS)]
        for call in (judge_never_worse, first_sign, crossings):
            self.assert_errors(call, {"one": (), "other": (1, 2)}, checks)


class Crossings(Case):
    def assert_crossings(self, factors, content, one, other):
        """The crossings, held against the roots of the factors that stand an odd number of times."""
        wanted = sorted(root for factor, many in factors if many % 2 for root in factor.floor_in(0, 1, 40))
        self.assert_call(len(wanted), crossings, one=one, other=other)
        for number, (near, floor) in enumerate(wanted):
            self.assert_same(crossing(one, other, number, 40), floor)
            for bits in (0, 1, 2, 3, 11):
                self.assert_call(floor >> (40 - bits), crossing, one=one, other=other, number=number, bits=bits)
            self.assert_signs(one, other, floor, near, wanted)
        for number in (-1, len(wanted), len(wanted) + 5):
            self.assert_error(BadNumber(number), crossing, one=one, other=other, number=number, bits=0)
        return len(wanted)

    def assert_signs(self, one, other, floor, near, wanted):
        """The difference has unlike signs on the two sides of a crossing, close to it."""
        far = min([Fraction(1, 2**30)] + [abs(near - root) / 3 for root, _ in wanted if root != near])
        difference = minus(one, other)
        sides = [rooting.sign(rooting.value_of(difference, near + side)) for side in (-far, far)]
        self.assertEqual(sorted(sides), [-1, 1])
        self.assertTrue(floor <= near * 2**40 + 1 and near * 2**40 - 1 <= floor + 1)

    def test_products_of_drawn_factors(self):
        many = []
        for number, factors in enumerate(rooting.drawn(11, 200, 8)):
            content = (1, -1, 6)[number % 3]
            one, other = list(splits(rooting.product(content, factors)))[number % 5]
            many.append(self.assert_crossings(factors, content, one, other))
        self.assertEqual(set(many), {0, 1, 2, 3})

    def test_crossings_with_a_power_of_two_below(self):
        for top, bottom in ((1, 2), (3, 8), (1, 2**20), (2**20 - 1, 2**20), (3, 2**40)):
            for content in (1, -5):
                factors = [(Rational(top, bottom), 1), (Rational(0, 1), 2)]
                one, other = rooting.product(content, factors), ()
                self.assert_crossings(factors, content, one, other)
                for bits in range(41):
                    self.assert_same(crossing(one, other, 0, bits), top * 2**bits // bottom)
                    self.assert_same(crossing(other, one, 0, bits), top * 2**bits // bottom)

    def test_zero_and_one_are_none(self):
        for factors in (
            [(Rational(0, 1), 1)],
            [(Rational(1, 1), 1)],
            [(Rational(0, 1), 3), (Rational(1, 1), 1), (Rational(1, 2), 2)],
            [(Rational(-1, 1), 1), (Rational(2, 1), 1), (NoRoot((1, 0, 1)), 2)],
            [(Rational(0, 1), 1), (Rational(1, 1), 2), (Square(1, 2), 2)],
        ):
            self.assertEqual(self.assert_crossings(factors, 4, rooting.product(4, factors), ()), 0)

    def test_equal_polynomials_have_none(self):
        for one in ((), (1,), (4, -5, 0, 2)):
            self.assert_call(0, crossings, one=one, other=one)
            self.assert_call(0, first_sign, one=one, other=one)
            for number in (0, -1, 1, True, None):
                self.assert_error(BadNumber(number), crossing, one=one, other=one, number=number, bits=None)

    def test_close_crossings(self):
        factors = [*CLOSE, (Rational(499, 999), 1), (Rational(1001, 2000), 2)]
        self.assertEqual(self.assert_crossings(factors, 1, rooting.product(1, factors), ()), 3)

    def test_first_signs_and_crossings_tell_all_signs(self):
        random = Random(12)
        for degree in range(9):
            for _ in range(12):
                one = counting.trim(random.randrange(-50, 51) for _ in range(degree + 1))
                other = counting.trim(random.randrange(-50, 51) for _ in range(4))
                difference = minus(one, other)
                many = crossings(one, other)
                floors = [crossing(one, other, number, 40) for number in range(many)]
                sign = first_sign(one, other)
                self.assert_call(sign, first_sign, one=one, other=other)
                self.assert_call(-sign, first_sign, one=other, other=one)
                for at in range(1, 64):
                    number = Fraction(at, 64)
                    passed = len([floor for floor in floors if Fraction(floor, 2**40) < number])
                    found = rooting.sign(rooting.value_of(difference, number))
                    # A crossing with this very number is a root; otherwise the sign is the first one, turned.
                    if number * 2**40 not in floors:
                        self.assertIn(found, (sign * (-1) ** passed, 0))

    def test_first_signs(self):
        for difference, sign in (
            ((), 0),
            ((1,), 1),
            ((-1, 5), -1),
            ((0, 1), 1),
            ((0, 0, -2, 9), -1),
            ((0, 0, 0, 3), 1),
        ):
            for one, other in splits(difference):
                self.assert_call(sign, first_sign, one=one, other=other)

    def test_errors(self):
        numbers = [1, -1, GREAT, *others(lambda thing: is_int(thing) and thing == 0)]
        bits = [-1, 41, *others(lambda thing: is_int(thing) and 0 <= thing <= 40)]
        checks = [
            ("one", BadPolynomial, NO_POLYNOMIALS),
            ("other", BadPolynomial, NO_POLYNOMIALS),
            ("number", BadNumber, numbers),
            ("bits", BadNumber, bits),
        ]
        self.assert_errors(crossing, {"one": (1, -2), "other": (), "number": 0, "bits": 0}, checks)


class WorkedOut(Case):
    """The examples of the document."""

    def test_never_worse(self):
        one, other = (1, 0, 0, -1), (1, 0, -3, 2)
        self.assert_call("never worse", lambda one, other: judge_never_worse(one, other)[0], one=one, other=other)
        paper = ("never worse", (3, -3), (0, 1), ((0, 1), (1, 1)))
        self.assert_call(True, never_worse_holds, one=one, other=other, thing=paper)
        self.assert_call(True, never_worse_holds, one=other, other=one, thing=("worse", (1, 2)))
        self.assertEqual(judge_never_worse(other, one)[0], "worse")

    def test_crossings(self):
        one, other = (1, 0, -2, 0, 1), (1, -1)
        self.assert_call(1, crossings, one=one, other=other)
        self.assert_call(9, crossing, one=one, other=other, number=0, bits=4)
        self.assert_call(1, first_sign, one=one, other=other)


if __name__ == "__main__":
    unittest.main()
