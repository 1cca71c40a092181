"""Polynomials made of factors whose roots are known, and exact checks of signs and corner numbers."""

from fractions import Fraction
from math import comb, gcd, isqrt
from random import Random

from tests import counting


class Rational:
    """A root that is a number; its factor is bottom x - top."""

    def __init__(self, top, bottom):
        self.number = Fraction(top, bottom)
        self.factor = (-self.number.numerator, self.number.denominator)
        self.roots = 1

    def many_between(self, low, high):
        return int(low < self.number < high)

    def floor_in(self, low, high, bits):
        return [(self.number, (self.number * 2**bits).__floor__())] if low < self.number < high else []


class Square:
    """The two roots of bottom x x - top, which is no square of a number."""

    def __init__(self, top, bottom):
        self.square = Fraction(top, bottom)
        self.factor = (-self.square.numerator, 0, self.square.denominator)

    def is_below(self, number):
        """Whether the root above 0 is below a number."""
        return number > 0 and number * number > self.square

    def many_between(self, low, high):
        above = not self.is_below(low) and self.is_below(high)
        below = self.is_below(-low) and not self.is_below(-high)
        return int(above) + int(below)

    def floor_in(self, low, high, bits):
        """The root between 0 and 1, if it is there: near enough a fraction to be sorted, and the integer below it."""
        if low >= 0 and not self.is_below(low) and self.is_below(high):
            fine = isqrt(int(self.square * 4**80))
            return [(Fraction(fine, 2**80), isqrt((self.square * 4**bits).__floor__()))]
        return []


class NoRoot:
    """A factor without real roots."""

    def __init__(self, factor):
        self.factor = factor

    def many_between(self, low, high):
        return 0

    def floor_in(self, low, high, bits):
        return []


FACTORS = (
    Rational(0, 1),
    Rational(1, 1),
    Rational(1, 2),
    Rational(-1, 1),
    Rational(3, 8),
    Rational(1, 3),
    Rational(-7, 5),
    Rational(333, 1000),
    Rational(2, 1),
    Square(2, 1),
    Square(1, 2),
    Square(1, 3),
    Square(3, 16),
    NoRoot((1, 0, 1)),
    NoRoot((1, 1, 1)),
    NoRoot((1, -2, 3)),
)


def product(content, factors):
    """The content times the product of the factors, which are pairs of a factor and how many times it stands."""
    found = (content,)
    for one, many in factors:
        found = counting.multiply(found, counting.raised(one.factor, many))
    return found


def drawn(seed, many, degree):
    """Many lists of factors with their multiplicities, up to a degree."""
    random = Random(seed)
    found = []
    while len(found) < many:
        some = random.sample(FACTORS, random.randrange(1, 5))
        factors = [(one, random.choice((1, 1, 1, 2, 2, 3, 4))) for one in some]
        if sum(many * (len(one.factor) - 1) for one, many in factors) <= degree:
            found.append(factors)
    return found


def content(polynomial):
    found = 0
    for coefficient in polynomial:
        found = gcd(found, coefficient)
    return found if polynomial[-1] > 0 else -found


def value_of(polynomial, number):
    found = Fraction(0)
    for coefficient in reversed(polynomial):
        found = found * number + coefficient
    return found


def corners(polynomial, low, high):
    """The corner numbers as [6.6] says, as fractions."""
    degree = len(polynomial) - 1
    line = (Fraction(low), Fraction(high) - Fraction(low))
    # The coefficients of the polynomial at low + (high - low) u.
    c = [Fraction(0)] * (degree + 1)
    power = [Fraction(1)]
    for coefficient in polynomial:
        for at, part in enumerate(power):
            c[at] += coefficient * part
        power = [
            a + b for a, b in zip([*[line[0] * part for part in power], 0], [0, *[line[1] * part for part in power]])
        ]
    return [sum(c[i] * Fraction(comb(j, i), comb(degree, i)) for i in range(j + 1)) for j in range(degree + 1)]


def sign(number):
    return (number > 0) - (number < 0)
