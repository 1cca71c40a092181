"""Which of two polynomials, or of two tables, is better for which chances."""

from mirrorbook.errors import BadNumber, OtherPlaces
from mirrorbook.places import are_sets, in_order, is_set
from mirrorbook.polynomials import is_polynomial, minus, scaled, times, value_at
from mirrorbook.ratios import halfway, is_chance, is_less, is_number, last_fit
from mirrorbook.roots import corner_tops, many_roots, parts_of, roots_between, sign_chain
from mirrorbook.tableforms import bases
from mirrorbook.tables import check_table, count_places, set_number, set_of
from mirrorbook.values import is_integer_from, is_two

NONE_LOST = (0, 1)
ALL_LOST = (1, 1)
MOST_COEFFICIENTS = 40


def is_below_zero(polynomial, number):
    """Whether the value at a number is below 0."""
    return value_at(polynomial, number)[0] < 0


def has_no_low_corner(polynomial, low, high):
    """Whether no corner number of a polynomial that is not zero is below 0 from low to high."""
    return min(corner_tops(polynomial, low, high)) >= 0


def judge_never_worse(one, other):
    """A paper: points between which corner numbers show that one is nowhere less, or a chance at which it is."""
    difference = minus(one, other)
    if difference == ():
        return ("never worse", (), (), (NONE_LOST, ALL_LOST))
    content, part, even = parts_of(difference)
    odd = scaled(content, part)
    points = [NONE_LOST]
    ahead = [ALL_LOST]
    # Stretches without low corners are passed; any other one is halved, until its ends tell what is below 0.
    while ahead != []:
        worse = [number for number in (points[-1], ahead[-1]) if is_below_zero(difference, number)]
        if worse != []:
            return ("worse", worse[0])
        if has_no_low_corner(odd, points[-1], ahead[-1]):
            points.append(ahead.pop())
        else:
            ahead.append(halfway(points[-1], ahead[-1]))
    return ("never worse", odd, even, tuple(points))


def never_worse_holds(one, other, thing):
    """Whether any value is a right paper for one polynomial being never worse than the other."""
    difference = minus(one, other)
    if is_two(thing):
        return thing[0] == "worse" and is_chance(thing[1]) and is_below_zero(difference, thing[1])
    if not isinstance(thing, tuple) or len(thing) != 4:
        return False
    kind, odd, even, points = thing
    if kind != "never worse" or not are_parts(difference, odd, even) or not are_points(points):
        return False
    return odd == () or all([has_no_low_corner(odd, points[at], points[at + 1]) for at in range(len(points) - 1)])


def are_parts(difference, odd, even):
    """Whether any two values are polynomials, the one times the square of the other being the difference."""
    if not is_polynomial(odd) or not is_polynomial(even):
        return False
    if difference == ():
        return () in (odd, even) and max(len(odd), len(even)) <= MOST_COEFFICIENTS
    # Any values can be long, so a product is made only if it has as many coefficients as the difference.
    if len(odd) + 2 * len(even) - 2 != len(difference):
        return False
    return times(odd, times(even, even)) == difference


def are_points(thing):
    """Whether any value is a tuple of numbers that ascend from 0 to 1."""
    if not isinstance(thing, tuple) or len(thing) < 2 or not all([is_number(number) for number in thing]):
        return False
    if thing[0][0] != 0 or thing[-1][0] != thing[-1][1]:
        return False
    return all([is_less(thing[at], thing[at + 1]) for at in range(len(thing) - 1)])


def first_sign(one, other):
    """The sign of one minus the other shortly behind 0, 0 if they are equal."""
    signs = [1 if coefficient > 0 else -1 for coefficient in minus(one, other) if coefficient != 0]
    return signs[0] if signs != [] else 0


def crossings(one, other):
    """How many crossings there are."""
    difference = minus(one, other)
    if difference == ():
        return 0
    return many_roots(parts_of(difference)[1], NONE_LOST, ALL_LOST)


def crossing(one, other, number, bits):
    """The greatest integer that is at most 2 to the power bits times the crossing with this number."""
    if not is_integer_from(number, 0, crossings(one, other) - 1):
        raise BadNumber(number)
    if not is_integer_from(bits, 0, 40):
        raise BadNumber(bits)
    chain = sign_chain(parts_of(minus(one, other))[1])
    return last_fit(bits, lambda top: roots_between(chain, NONE_LOST, (top, 1 << bits)) <= number)


def check_two_tables(one, other):
    check_table(one)
    check_table(other)
    if len(one) != len(other):
        raise OtherPlaces()


def brings_all(table, places):
    """Whether a set has the rank of all."""
    return table[set_number(places)] == table[-1]


def judge_by_places(one, other):
    """A paper: all bases of the other table, or the first set that brings all back in it, but not in the one."""
    check_two_tables(one, other)
    sets = in_order([set_of(number) for number in range(len(one))])
    worse = [places for places in sets if brings_all(other, places) and not brings_all(one, places)]
    if worse != []:
        return ("worse", worse[0])
    return ("never worse", bases(other))


def by_places_holds(one, other, thing):
    """Whether any value is a right paper for one table being never worse place by place than the other."""
    check_two_tables(one, other)
    n = count_places(one)
    if not is_two(thing):
        return False
    kind, proof = thing
    if kind == "worse":
        return is_set(n, proof) and brings_all(other, proof) and not brings_all(one, proof)
    if kind != "never worse" or not are_sets(n, proof) or proof != bases(other):
        return False
    return all([brings_all(one, places) for places in proof])
