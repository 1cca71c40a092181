"""Weights and rank counts: worked out from one another, and turned into those of the mirror."""

from math import comb

from mirrorbook.errors import BadCounts
from mirrorbook.polynomials import is_polynomial, scaled, sign, sum_of_all, trimmed
from mirrorbook.values import are_integers_from


def check_counts(counts):
    if not isinstance(counts, tuple) or not 2 <= len(counts) <= 9:
        raise BadCounts(counts)
    if not all([is_polynomial(count) for count in counts]):
        raise BadCounts(counts)
    words = sum_of_all(counts)
    if words != (0,) * (len(words) - 1) + (1,):
        raise BadCounts(counts)


def check_rank_rows(rows):
    if not isinstance(rows, tuple) or not 2 <= len(rows) <= 9:
        raise BadCounts(rows)
    if not all([isinstance(row, tuple) for row in rows]) or not 1 <= len(rows[0]) <= len(rows):
        raise BadCounts(rows)
    for j, row in enumerate(rows):
        sets = comb(len(rows) - 1, j)
        if len(row) != len(rows[0]) or not are_integers_from(row, 0, sets) or sum(row) != sets:
            raise BadCounts(rows)


def turned_weights(counts):
    """The weights of the mirror of a table with these weights."""
    check_counts(counts)
    return weights_of_rows(turned_rows(rows_of_weights(counts)))


def ranks_of_weights(counts):
    """The rank counts of a table with these weights."""
    check_counts(counts)
    return rows_of_weights(counts)


def weights_of_ranks(rows):
    """The weights of a table with these rank counts."""
    check_rank_rows(rows)
    return weights_of_rows(rows)


def turned_ranks(rows):
    """The rank counts of the mirror of a table with these rank counts."""
    check_rank_rows(rows)
    return turned_rows(rows)


def rows_of_weights(counts):
    n = len(counts) - 1
    k = len(sum_of_all(counts)) - 1
    found = []
    for j in range(n + 1):
        # Stacks of the weight w are 0 at n - w places, and so at each j of these.
        zeros = sum_of_all([scaled(comb(n - w, j), counts[w]) for w in range(n + 1)])
        found.append(tuple(reversed(zeros + (0,) * (k + 1 - len(zeros)))))
    return tuple(found)


def weights_of_rows(rows):
    n = len(rows) - 1
    zeros = [trimmed(tuple(reversed(row))) for row in rows]
    return tuple([weight_of_zeros(zeros, n - w) for w in range(n + 1)])


def weight_of_zeros(zeros, least):
    """The count of the stacks that are 0 at just so many places."""
    some = range(least, len(zeros))
    return sum_of_all([scaled(sign(j - least) * comb(j, least), zeros[j]) for j in some])


def turned_rows(rows):
    n = len(rows) - 1
    k = len(rows[0]) - 1
    return tuple([turned_row(rows[n - j], j - k, n - k) for j in range(n + 1)])


def turned_row(row, shift, most):
    """The row of the ranks 0 to most in which item s of a row stands at s + shift."""
    return tuple([row[s - shift] if 0 <= s - shift < len(row) else 0 for s in range(most + 1)])
