"""Polynomials: tuples of integers, the constant coefficient first, the last one not 0."""

from mirrorbook.errors import BadPolynomial
from mirrorbook.ratios import lowest_terms
from mirrorbook.values import are_integers


def is_polynomial(thing):
    """Whether any value is a polynomial; () is zero."""
    return are_integers(thing) and (len(thing) == 0 or thing[-1] != 0)


def check_polynomial(thing):
    if not is_polynomial(thing):
        raise BadPolynomial(thing)


def check_two_polynomials(one, other):
    check_polynomial(one)
    check_polynomial(other)


def trimmed(coefficients):
    """The polynomial with these coefficients, zeros at the end left out."""
    if not are_integers(coefficients):
        raise BadPolynomial(coefficients)
    many = len(coefficients)
    while many > 0 and coefficients[many - 1] == 0:
        many = many - 1
    return coefficients[:many]


def plus(one, other):
    """The sum of two polynomials."""
    check_two_polynomials(one, other)
    many = max(len(one), len(other))
    left = one + (0,) * (many - len(one))
    right = other + (0,) * (many - len(other))
    return trimmed(tuple([first + second for first, second in zip(left, right)]))


def sum_of_all(polynomials):
    """The sum of any number of polynomials."""
    found = ()
    for one in polynomials:
        found = plus(found, one)
    return found


def minus(one, other):
    """One polynomial minus the other."""
    check_two_polynomials(one, other)
    return plus(one, scaled(-1, other))


def times(one, other):
    """The product of two polynomials."""
    check_two_polynomials(one, other)
    total = [0] * (len(one) + len(other))
    for low, first in enumerate(one):
        for high, second in enumerate(other):
            total[low + high] = total[low + high] + first * second
    return trimmed(tuple(total))


def scaled(integer, one):
    """A polynomial times an integer."""
    check_polynomial(one)
    return trimmed(tuple([integer * coefficient for coefficient in one]))


def power(one, many):
    """The product of many times the same polynomial, (1,) of none."""
    check_polynomial(one)
    total = (1,)
    for _ in range(many):
        total = times(total, one)
    return total


def value(one, integer):
    """The value at an integer."""
    check_polynomial(one)
    total = 0
    for coefficient in reversed(one):
        total = total * integer + coefficient
    return total


def value_at(one, number):
    """The value at a number (top, bottom), as a number in lowest terms."""
    check_polynomial(one)
    top, bottom = number
    total = 0
    scale = 1
    for coefficient in reversed(one):
        total = total * top + coefficient * scale
        scale = scale * bottom
    # The scale has a factor for each coefficient, which is one more than the degree.
    return lowest_terms(total * bottom, scale)


def sign(many):
    """1 for an even number, minus 1 for an odd one."""
    return 1 - 2 * (many % 2)
