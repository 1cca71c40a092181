"""Counts of stacks by their supports: polynomials in Q that are worked out from a table."""

from mirrorbook.errors import BadNumber, BadSet
from mirrorbook.fields import check_field
from mirrorbook.places import is_set_of_size, sets_of_size
from mirrorbook.polynomials import check_polynomial, is_polynomial, sign, sum_of_all, trimmed, value
from mirrorbook.tableforms import checked_number
from mirrorbook.tables import check_table, count_places, rest_number, set_number, set_of, with_place
from mirrorbook.turning import turned_weights, weights_of_ranks
from mirrorbook.values import is_integer_from, is_two


def subsets(number):
    """The numbers of all sets within a set."""
    found = [0]
    for place in set_of(number):
        found = found + [with_place(less, place) for less in found]
    return found


def count_apart(table, zeros, others):
    """The count of the stacks that are 0 at each place of one set, and not at any place of another one."""
    coefficients = [0] * (table[-1] + 1)
    for more in subsets(others):
        degree = table[-1] - table[zeros | more]
        coefficients[degree] = coefficients[degree] + sign(len(set_of(more)))
    return trimmed(tuple(coefficients))


def count_at(table, number):
    """The count of the set with this number."""
    return count_apart(table, rest_number(table, number), number)


def count_within(table, places):
    """The count of the stacks whose support is within a set."""
    number = checked_number(table, places)
    return count_apart(table, rest_number(table, number), 0)


def count_of(table, places):
    """The count of the stacks whose support is a set."""
    return count_at(table, checked_number(table, places))


def count_over(table, places):
    """The count of the stacks whose support contains a set."""
    return count_apart(table, 0, checked_number(table, places))


def weights(table):
    """The counts of the weights from 0 to n."""
    return weights_of_ranks(rank_counts(table))


def weights_at(table, integer):
    """The values of the weights at an integer."""
    return tuple([value(count, integer) for count in weights(table)])


def rank_counts(table):
    """How many sets of each size have each rank."""
    check_table(table)
    n = count_places(table)
    found = []
    for size in range(n + 1):
        ranks = [table[set_number(places)] for places in sets_of_size(n, size)]
        found.append(tuple([ranks.count(rank) for rank in range(table[-1] + 1)]))
    return tuple(found)


def divided(polynomial, root):
    """What is left when Q less the root is divided out of a polynomial, and the remainder."""
    sums = []
    carried = 0
    for coefficient in reversed(polynomial):
        carried = carried * root + coefficient
        sums.append(carried)
    return (tuple(reversed(sums[:-1])), carried)


def subcounts(q, polynomial):
    """The integers by which (Q - 1)(Q - q)(Q - q q) .. are multiplied in a polynomial."""
    check_field(q)
    check_polynomial(polynomial)
    found = []
    left = polynomial
    root = 1
    while left != ():
        left, remainder = divided(left, root)
        found.append(remainder)
        root = root * q
    return tuple(found)


def cover_number(table, places, b):
    """The least m such that the count of a set is not 0 at b to the power m, None if it is no cover."""
    count = count_of(table, places)
    if not is_integer_from(b, 2, 100):
        raise BadNumber(b)
    if count == ():
        return None
    m = 0
    stacks = 1
    while value(count, stacks) == 0:
        m = m + 1
        stacks = stacks * b
    return m


def check_weight(table, weight):
    check_table(table)
    if not is_integer_from(weight, 0, count_places(table)):
        raise BadNumber(weight)


def check_weight_and_size(table, weight, t):
    check_weight(table, weight)
    if not is_integer_from(t, 0, weight):
        raise BadNumber(t)


def counts_of_weight(table, weight):
    """The counts of all sets of so many places, by the numbers of the sets."""
    numbers = [set_number(places) for places in sets_of_size(count_places(table), weight)]
    return {number: count_at(table, number) for number in numbers}


def sum_over(counts, places):
    """The sum of the counts of those sets that contain a set."""
    number = set_number(places)
    return sum_of_all([counts[other] for other in counts if other & number == number])


def weight_over(table, weight, places):
    """The count of a weight over a set."""
    check_weight(table, weight)
    checked_number(table, places)
    if len(places) > weight:
        raise BadSet(places)
    return sum_over(counts_of_weight(table, weight), places)


def balance_paper(counts, sets):
    """The paper of a weight with these counts of sets, for the sets of t places."""
    first = sum_over(counts, sets[0])
    for places in sets:
        if sum_over(counts, places) != first:
            return ("unbalanced", sets[0], places)
    return ("balanced", first)


def balance(table, weight):
    """The greatest t for which a weight is balanced."""
    check_weight(table, weight)
    counts = counts_of_weight(table, weight)
    t = 0
    while t < weight and balance_paper(counts, sets_of_size(count_places(table), t + 1))[0] == "balanced":
        t = t + 1
    return t


def judge_balance(table, weight, t):
    """A paper: the count of a weight over each set of t places, or two sets over which its counts are unlike."""
    check_weight_and_size(table, weight, t)
    return balance_paper(counts_of_weight(table, weight), sets_of_size(count_places(table), t))


def balance_holds(table, weight, t, thing):
    """Whether any value is a right paper for a weight and t."""
    check_weight_and_size(table, weight, t)
    n = count_places(table)
    counts = counts_of_weight(table, weight)
    if is_two(thing):
        return is_polynomial(thing[1]) and thing == balance_paper(counts, sets_of_size(n, t))
    if not isinstance(thing, tuple) or len(thing) != 3:
        return False
    kind, one, other = thing
    if kind != "unbalanced" or not is_set_of_size(n, t, one) or not is_set_of_size(n, t, other):
        return False
    return sum_over(counts, one) != sum_over(counts, other)


def told_balance(table):
    """The greatest t for which the weights of a table and of its mirror tell that all weights are balanced."""
    counts = weights(table)
    mirrored = turned_weights(counts)
    return max(told_by(counts, mirrored), told_by(mirrored, counts))


def told_by(counts, mirrored):
    """The greatest t that the least weight of one table and the weights of the other one tell, 0 if there is none."""
    n = len(counts) - 1
    d = min([w for w in range(1, n + 1) if counts[w] != ()], default=n + 1)
    told = [t for t in range(min(d - 1, n) + 1) if count_known(mirrored, n - t) <= d - t]
    return max(told, default=0)


def count_known(counts, most):
    """How many of the weights from 1 to most have a count that is not zero."""
    return len([w for w in range(1, most + 1) if counts[w] != ()])
