"""Numbers: pairs (top, bottom) of integers whose bottom is at least 1."""

from math import gcd

from mirrorbook.values import are_integers, is_two


def is_number(thing):
    """Whether any value is a number, with or without a common divisor."""
    return is_two(thing) and are_integers(thing) and thing[1] >= 1


def is_chance(thing):
    """Whether any value is a number from 0 to 1."""
    return is_number(thing) and 0 <= thing[0] <= thing[1]


def is_less(one, other):
    """Whether one number is less than another one."""
    return one[0] * other[1] < other[0] * one[1]


def lowest_terms(top, bottom):
    """The number that is equal to top over bottom, without a common divisor."""
    shared = gcd(top, bottom)
    return (top // shared, bottom // shared)


def halfway(low, high):
    """The number in the middle between two numbers."""
    return lowest_terms(low[0] * high[1] + high[0] * low[1], 2 * low[1] * high[1])


def last_fit(bits, fits):
    """The greatest integer that fits, where 0 does, 2 to the power bits does not, and none does behind that one."""
    low = 0
    high = 1 << bits
    while high - low > 1:
        middle = (low + high) // 2
        if fits(middle):
            low = middle
        else:
            high = middle
    return low


def number_text(number):
    """The text of a number in lowest terms."""
    top, bottom = number
    return str(top) if bottom == 1 else f"{top}/{bottom}"
