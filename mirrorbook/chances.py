"""What comes back when places are lost: polynomials in the chance p of loss, and numbers for told chances."""

from mirrorbook.errors import BadChance, BadNumber
from mirrorbook.places import check_place
from mirrorbook.polynomials import check_polynomial, plus, power, scaled, sum_of_all, times, value_at
from mirrorbook.ratios import is_chance, last_fit, lowest_terms
from mirrorbook.tableforms import is_free_at
from mirrorbook.tables import check_table, count_places, rest_number, set_of, with_place
from mirrorbook.values import is_integer_from


def left_poly(n, numbers):
    """The sum of the chances that just the places of a set are left, over sets of n places given by their numbers."""
    sizes = [len(set_of(number)) for number in numbers]
    chances = [times(power((1, -1), size), power((0, 1), n - size)) for size in range(n + 1)]
    return sum_of_all([scaled(sizes.count(size), chance) for size, chance in enumerate(chances)])


def return_poly(table):
    """The chance that what is left has the full rank."""
    check_table(table)
    numbers = [number for number in range(len(table)) if table[number] == table[-1]]
    return left_poly(count_places(table), numbers)


def known_poly(table):
    """The rank that what is left has on average."""
    check_table(table)
    # Each set is counted as many times as its rank says.
    numbers = [number for number in range(len(table)) for _ in range(table[number])]
    return left_poly(count_places(table), numbers)


def free_poly(table):
    """The chance that the places that are lost are a free set."""
    check_table(table)
    numbers = [number for number in range(len(table)) if is_free_at(table, rest_number(table, number))]
    return left_poly(count_places(table), numbers)


def check_table_and_place(table, place):
    check_table(table)
    check_place(count_places(table), place)


def sets_told_more(table, place):
    """The numbers of the sets of other places whose rank grows if the place is put into them."""
    # A set that has the place already stays as it is.
    return [number for number in range(len(table)) if table[with_place(number, place)] > table[number]]


def doubt_poly(table, place):
    """The chance that what is left of the other places does not tell the place."""
    check_table_and_place(table, place)
    return left_poly(count_places(table) - 1, sets_told_more(table, place))


def turning_poly(table, place):
    """The chance that what is left of the other places has the full rank with the place, and only with it."""
    check_table_and_place(table, place)
    numbers = [number for number in sets_told_more(table, place) if table[with_place(number, place)] == table[-1]]
    return left_poly(count_places(table) - 1, numbers)


def are_told_chances(n, thing):
    """Whether any value is a tuple of n chances."""
    return isinstance(thing, tuple) and len(thing) == n and all([is_chance(chance) for chance in thing])


def check_told_chances(table, chances):
    if not are_told_chances(count_places(table), chances):
        raise BadChance(chances)


def shares_of_sets(chances):
    """For each set a share of the sum of all shares: the chance that just its places are left."""
    shares = [1]
    for top, bottom in chances:
        shares = [top * share for share in shares] + [(bottom - top) * share for share in shares]
    return shares


def average(amounts, chances):
    """The amounts of the sets of the places that are left, on average."""
    shares = shares_of_sets(chances)
    return lowest_terms(sum([amount * share for amount, share in zip(amounts, shares)]), sum(shares))


def return_chance(table, chances):
    """The chance that what is left has the full rank, for told chances."""
    check_table(table)
    check_told_chances(table, chances)
    return average([int(rank == table[-1]) for rank in table], chances)


def known_amount(table, chances):
    """The rank that what is left has on average, for told chances."""
    check_table(table)
    check_told_chances(table, chances)
    return average(table, chances)


def doubt_chance(table, place, chances):
    """The chance that what is left of the other places does not tell the place, for told chances."""
    check_table_and_place(table, place)
    check_told_chances(table, chances)
    # Whether the place itself is left plays no part, so a set counts like the same set without the place.
    others = rest_number(table, 1 << place)
    growths = [table[with_place(number, place)] - table[number & others] for number in range(len(table))]
    return average(growths, chances)


def area(polynomial):
    """The integral from 0 to 1, a number."""
    check_polynomial(polynomial)
    top = 0
    bottom = 1
    for degree, coefficient in enumerate(polynomial):
        top = top * (degree + 1) + coefficient * bottom
        bottom = bottom * (degree + 1)
    return lowest_terms(top, bottom)


def swapped(polynomial):
    """The polynomial with 1 - p in the place of p."""
    check_polynomial(polynomial)
    found = ()
    for coefficient in reversed(polynomial):
        found = plus(times(found, (1, -1)), scaled(coefficient, (1,)))
    return found


def half_point(table, bits):
    """The greatest integer that is at most 2 to the power bits times the half point, None if there is no half point."""
    check_table(table)
    if not is_integer_from(bits, 0, 40):
        raise BadNumber(bits)
    if table[-1] == 0:
        return None
    polynomial = return_poly(table)
    return last_fit(bits, lambda top: is_at_least_half(value_at(polynomial, (top, 1 << bits))))


def is_at_least_half(number):
    return 2 * number[0] >= number[1]
