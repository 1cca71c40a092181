"""Roots of polynomials: odd and even parts, how many real roots there are, corner numbers."""

from math import comb, gcd, lcm

from mirrorbook.errors import BadNumber, BadPolynomial
from mirrorbook.polynomials import check_polynomial, minus, scaled, times, trimmed, value_at
from mirrorbook.ratios import is_less, is_number, lowest_terms


def check_not_zero(polynomial):
    check_polynomial(polynomial)
    if polynomial == ():
        raise BadPolynomial(polynomial)


def shared_divisor(polynomial):
    """The greatest integer that divides all coefficients of a polynomial that is not zero."""
    found = 0
    for coefficient in polynomial:
        found = gcd(found, coefficient)
    return found


def content_of(polynomial):
    """The greatest integer that divides all coefficients, with the sign of the last one."""
    if polynomial[-1] < 0:
        return 0 - shared_divisor(polynomial)
    return shared_divisor(polynomial)


def over(polynomial, integer):
    """The polynomial divided by an integer that divides all its coefficients."""
    return tuple([coefficient // integer for coefficient in polynomial])


def primitive(polynomial):
    """The polynomial, which is not zero, divided by its content."""
    return over(polynomial, content_of(polynomial))


def derivative(polynomial):
    return tuple([degree * coefficient for degree, coefficient in enumerate(polynomial)])[1:]


def remainder(one, other):
    """The remainder of one polynomial on division by the other, times a number above 0."""
    left = one
    while len(left) >= len(other):
        ahead = (0,) * (len(left) - len(other))
        # Both are scaled so that their last coefficients are the same and cancel out.
        lead = left[-1] if other[-1] > 0 else 0 - left[-1]
        left = minus(scaled(abs(other[-1]), left), ahead + scaled(lead, other))
    return over(left, shared_divisor(left)) if left != () else ()


def quotient(one, other):
    """One primitive polynomial divided by another one that divides it."""
    left = one
    found = []
    for degree in reversed(range(len(one) - len(other) + 1)):
        factor = left[-1] // other[-1] if len(left) == degree + len(other) else 0
        left = minus(left, trimmed((0,) * degree + scaled(factor, other)))
        found.append(factor)
    return tuple(reversed(found))


def common_part(one, other):
    """The greatest primitive polynomial that divides two polynomials, of which the first one is not zero."""
    left = one
    right = other
    while right != ():
        left, right = right, remainder(left, right)
    return primitive(left)


def roots_once(polynomial):
    """A primitive polynomial as a product: that of all its roots, each once, and that of what is left of them."""
    left = common_part(polynomial, derivative(polynomial))
    return (quotient(polynomial, left), left)


def parts_of(polynomial):
    """The content, the odd part and the even part."""
    check_not_zero(polynomial)
    odd = (1,)
    even = (1,)
    left = primitive(polynomial)
    while len(left) > 1:
        # Roots that stand at least twice in what is left go into the even part, any other ones into the odd part.
        once, left = roots_once(left)
        twice, left = roots_once(left)
        odd = times(odd, quotient(once, twice))
        even = times(even, twice)
    return (content_of(polynomial), odd, even)


def sign_chain(polynomial):
    """Polynomials whose signs tell the real roots of a polynomial that is not zero (J. Sturm)."""
    once = roots_once(primitive(polynomial))[0]
    chain = [once]
    left = derivative(once)
    while left != ():
        chain.append(left)
        left = scaled(-1, remainder(chain[-2], chain[-1]))
    return chain


def sign_changes(chain, number):
    """How many signs along the chain, zeros left out, are unlike the sign ahead of them."""
    tops = [value_at(polynomial, number)[0] for polynomial in chain]
    signs = [top > 0 for top in tops if top != 0]
    return len([at for at in range(1, len(signs)) if signs[at] != signs[at - 1]])


def roots_between(chain, low, high):
    """How many roots the polynomial of the chain has above low and below high."""
    # The changes that are lost from low to high are the roots above low, up to high itself.
    last = int(value_at(chain[0], high)[0] == 0)
    return sign_changes(chain, low) - sign_changes(chain, high) - last


def check_stretch(polynomial, low, high):
    check_not_zero(polynomial)
    if not is_number(low):
        raise BadNumber(low)
    if not is_number(high) or not is_less(low, high):
        raise BadNumber(high)


def many_roots(polynomial, low, high):
    """How many different real roots lie above low and below high."""
    check_stretch(polynomial, low, high)
    return roots_between(sign_chain(polynomial), low, high)


def corners(polynomial, low, high):
    """The tuple of the corner numbers from low to high."""
    check_stretch(polynomial, low, high)
    degree = len(polynomial) - 1
    bottom = 1
    for _ in range(degree):
        bottom = bottom * lcm(low[1], high[1])
    tops = corner_tops(polynomial, low, high)
    return tuple([lowest_terms(top, bottom * comb(degree, j)) for j, top in enumerate(tops)])


def corner_tops(polynomial, low, high):
    """Integers with the signs of the corner numbers.

    Each is a corner number, multiplied by the number of ways to choose j out of the degree, and by the common bottom
    of low and high to the power of the degree.
    """
    bottom = lcm(low[1], high[1])
    ahead = low[0] * (bottom // low[1])
    behind = high[0] * (bottom // high[1])
    tops = []
    scale = 1
    # At (ahead + behind v) / (bottom (1 + v)) the polynomial, times bottom (1 + v) for each degree, is one in v.
    for many, coefficient in enumerate(reversed(polynomial)):
        left = [ahead * top for top in tops] + [0]
        right = [0] + [behind * top for top in tops]
        here = [coefficient * scale * comb(many, j) for j in range(many + 1)]
        tops = [sum(parts) for parts in zip(left, right, here)]
        scale = scale * bottom
    return tops
