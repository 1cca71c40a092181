"""mirrorbook/turning.py: [3.4] Ranks and weights, [3.5] The mirror."""

import unittest
from math import comb
from random import Random

from mirrorbook.errors import BadCounts
from mirrorbook.turning import ranks_of_weights, turned_ranks, turned_weights, weights_of_ranks
from tests import brute, counting, rankings
from tests.samples import Case, any_values, changes, is_int, random_rows

R_WEIGHTS = ((1,), (), (-3, 3), (2, -3, 1))
R_RANKS = ((1, 0, 0), (0, 3, 0), (0, 0, 3), (0, 0, 1))


def random_tables():
    """Tables of books of five to eight places."""
    random = Random(95)
    found = []
    for q, n, k in ((2, 5, 3), (2, 6, 4), (2, 8, 5), (3, 5, 4), (3, 7, 3), (4, 5, 2), (4, 8, 3), (5, 6, 2), (5, 8, 4)):
        found.append(rankings.table_by_words(q, n, brute.span(q, n, random_rows(random, q, n, k))))
    return found


def uniform_tables():
    """Tables of one to eight places, with each k, also 0 and n."""
    return [rankings.uniform(n, k) for n in range(1, 9) for k in range(n + 1)]


TABLES = (
    uniform_tables()
    + rankings.small_tables()
    + counting.middle_tables()
    + rankings.great_tables()
    + counting.eight_tables()
    + random_tables()
)


def by_pairs(counts):
    """The weights of the mirror, by the sums K(w, u) of [3.5]."""
    n = len(counts) - 1
    k = len(counting.add(counts)) - 1
    found = []
    for w in range(n + 1):
        total = counting.add(counting.multiply(factor(n, w, u), counts[u]) for u in range(n + 1))
        assert not any(total[:k])
        found.append(total[k:])
    return tuple(found)


def factor(n, w, u):
    """K(w, u)."""
    terms = []
    for j in range(w + 1):
        many = (-1) ** j * comb(u, j) * comb(n - u, w - j)
        terms.append(counting.scale(many, counting.raised((-1, 1), w - j)))
    return counting.add(terms)


def is_polynomial(thing):
    return type(thing) is tuple and all(map(is_int, thing)) and (thing == () or thing[-1] != 0)


def fits_counts(thing):
    """Whether a value is a tuple of 2 to 9 polynomials whose sum is a power of Q."""
    if type(thing) is not tuple or not 2 <= len(thing) <= 9 or not all(map(is_polynomial, thing)):
        return False
    total = counting.add(thing)
    return total != () and sum(map(abs, total)) == 1 == total[-1]


def fits_rows(thing):
    """Whether a value has the form of rank counts."""
    if type(thing) is not tuple or not 2 <= len(thing) <= 9 or not all(type(row) is tuple for row in thing):
        return False
    if len({len(row) for row in thing}) != 1 or not 1 <= len(thing[0]) <= len(thing):
        return False
    if not all(is_int(item) and item >= 0 for row in thing for item in row):
        return False
    return all(sum(row) == comb(len(thing) - 1, j) for j, row in enumerate(thing))


class Turning(Case):
    def test_weights_of_the_mirror(self):
        for table in TABLES:
            own, other = (counting.SetCounts(one).weights() for one in (table, rankings.mirrored(table)))
            self.assert_call(other, turned_weights, counts=own)
            self.assert_call(own, turned_weights, counts=other)

    def test_sums_over_pairs(self):
        for table in TABLES[::3]:
            own = counting.SetCounts(table).weights()
            self.assertEqual(turned_weights(own), by_pairs(own))

    def test_rank_counts_of_the_mirror(self):
        for table in TABLES:
            own, other = (counting.SetCounts(one).rank_counts() for one in (table, rankings.mirrored(table)))
            self.assert_call(other, turned_ranks, rows=own)
            self.assert_call(own, turned_ranks, rows=other)

    def test_weights_and_rank_counts(self):
        for table in TABLES:
            counts = counting.SetCounts(table)
            self.assert_call(counts.rank_counts(), ranks_of_weights, counts=counts.weights())
            self.assert_call(counts.weights(), weights_of_ranks, rows=counts.rank_counts())

    def test_of_the_table_and_not_of_the_mirror(self):
        for n in range(1, 9):
            none = ((1,),) + ((),) * n
            rows = tuple((comb(n, j),) for j in range(n + 1))
            self.assert_call(rows, ranks_of_weights, counts=none)
            self.assert_call(none, weights_of_ranks, rows=rows)
            every = tuple(counting.scale(comb(n, w), counting.raised((-1, 1), w)) for w in range(n + 1))
            self.assert_call(every, turned_weights, counts=none)


class WrongCounts(Case):
    def assert_wrong(self, thing):
        self.assertFalse(fits_counts(thing))
        self.assert_error(BadCounts(thing), turned_weights, counts=thing)
        self.assert_error(BadCounts(thing), ranks_of_weights, counts=thing)

    def test_any_values(self):
        for thing in any_values():
            if not fits_counts(thing):
                self.assert_wrong(thing)

    def test_one_item_and_ten(self):
        self.assert_wrong(())
        self.assert_wrong(((1,),))
        self.assert_wrong(((0, 1),))
        self.assert_wrong(((1,),) + ((),) * 9)
        self.assert_call(((1,), (-1, 1)), turned_weights, counts=((1,), ()))
        self.assertEqual(len(turned_weights(((1,),) + ((),) * 8)), 9)

    def test_what_is_no_polynomial(self):
        for thing in (((1,), (0,)), ((1,), (-1, 1, 0)), ((1, 0), ()), ((True,), ()), ((1,), (-1, True)), ((1,), [])):
            self.assert_wrong(thing)
        for thing in ([(1,), ()], ((1,), None), ((1,), 0), ((1,), (-1, (1,))), [[1], []], ((1,), ("",))):
            self.assert_wrong(thing)

    def test_sums_that_are_no_power(self):
        for thing in (((), ()), ((2,), ()), ((1,), (1,)), ((1,), (-2,)), ((1,), (0, 1)), ((1,), (-1, 2))):
            self.assert_wrong(thing)
        self.assert_wrong(((1,), (-1,)))
        self.assert_wrong(((1,), (), (-3, 3), (2, -3, -1)))
        self.assert_wrong(((0, 1), (), (0, 0, 1), ()))

    def test_changed_in_one_place(self):
        for thing in changes(R_WEIGHTS):
            if not fits_counts(thing):
                self.assert_wrong(thing)


class WrongRows(Case):
    def assert_wrong(self, thing):
        self.assertFalse(fits_rows(thing))
        self.assert_error(BadCounts(thing), weights_of_ranks, rows=thing)
        self.assert_error(BadCounts(thing), turned_ranks, rows=thing)

    def test_any_values(self):
        for thing in any_values():
            if not fits_rows(thing):
                self.assert_wrong(thing)

    def test_one_row_and_ten(self):
        self.assert_wrong(())
        self.assert_wrong(((1,),))
        self.assert_wrong(tuple((comb(9, j),) for j in range(10)))
        self.assert_call(((1, 0), (0, 1)), turned_ranks, rows=((1,), (1,)))

    def test_lengths_of_rows(self):
        self.assert_wrong(((), ()))
        self.assert_wrong(((1, 0, 0), (0, 1, 0)))
        self.assert_wrong(((1, 0), (1,)))
        self.assert_wrong(((1,), (1, 0)))
        self.assert_wrong(((1, 0, 0), (0, 2, 0), (0, 1)))

    def test_what_is_no_integer(self):
        for thing in (((True,), (1,)), ((1,), (True,)), ((1, False), (0, 1)), ((1,), [1]), [(1,), (1,)], ((1,), None)):
            self.assert_wrong(thing)
        for thing in (((1, ()), (0, 1)), ((1, None), (0, 1)), (None, (1,)), (1, 1), ([1], (1,)), ((1, "0"), (0, 1))):
            self.assert_wrong(thing)

    def test_negative_integers(self):
        self.assert_wrong(((1, 0), (2, -1)))
        self.assert_wrong(((-1, 2), (0, 1)))
        self.assert_wrong(((1, 0, 0), (0, 2, 0), (-1, 1, 1)))

    def test_sums_off_by_one(self):
        for j in range(4):
            for step in (1, -1):
                for at in range(3):
                    row = list(R_RANKS[j])
                    row[at] += step
                    self.assert_wrong(R_RANKS[:j] + (tuple(row),) + R_RANKS[j + 1 :])

    def test_changed_in_one_place(self):
        for thing in changes(R_RANKS):
            if not fits_rows(thing):
                self.assert_wrong(thing)


class Examples(Case):
    def test_worked_out_by_hand(self):
        self.assert_same(turned_weights(R_WEIGHTS), ((1,), (), (), (-1, 1)))
        self.assert_same(ranks_of_weights(R_WEIGHTS), R_RANKS)
        self.assert_same(weights_of_ranks(R_RANKS), R_WEIGHTS)


if __name__ == "__main__":
    unittest.main()
