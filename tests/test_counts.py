"""mirrorbook/counts.py: [3.2] Counts of sets, [3.3] Weights, [3.6] Sub-books, [3.7] Cover numbers."""

import unittest
from random import Random

from mirrorbook.books import Book
from mirrorbook.counts import (
    count_of,
    count_over,
    count_within,
    cover_number,
    rank_counts,
    subcounts,
    weight_over,
    weights,
    weights_at,
)
from mirrorbook.errors import BadField, BadNumber, BadPolynomial, BadSet, BadTable
from mirrorbook.tables import table_of
from tests import brute, counting, rankings
from tests.samples import GREAT, Case, is_int, is_places, others, random_rows

R = (0, 1, 1, 2, 1, 2, 2, 2)
BOOKS = rankings.book_tables()
SMALL = rankings.small_tables()
GREAT_TABLES = counting.middle_tables() + rankings.great_tables() + counting.eight_tables()
NO_TABLES = rankings.no_tables()
OF_A_SET = (count_within, count_of, count_over)
STACKS = 16000


def no_sets(n):
    return [(n,), (0, 0), [0], (-1,), (1, 0), *others(lambda thing: is_places(n, thing))]


def no_numbers(low, high):
    return [low - 1, high + 1, *others(lambda thing: is_int(thing) and low <= thing <= high)]


class Stacks(Case):
    """Counts of books, held against stacks of words that are listed one by one."""

    def test_counts_at_powers_of_q(self):
        for book, table in BOOKS:
            words = sorted(brute.span(book.q, book.n, book.rows))
            for many in range(4):
                if len(words) ** many <= STACKS:
                    found = counting.supports_of_stacks(book.n, words, many)
                    self.assert_sets(table, book.n, book.q**many, found)
                    self.assert_weights(table, book.n, book.q**many, found)

    def assert_sets(self, table, n, great, found):
        for places in brute.sets(n):
            some = set(places)
            within = sum(count for one, count in found.items() if set(one) <= some)
            over = sum(count for one, count in found.items() if some <= set(one))
            self.assertEqual(counting.value_of(count_within(table, places), great), within)
            self.assertEqual(counting.value_of(count_of(table, places), great), found[places])
            self.assertEqual(counting.value_of(count_over(table, places), great), over)

    def assert_weights(self, table, n, great, found):
        sizes = [sum(count for one, count in found.items() if len(one) == w) for w in range(n + 1)]
        self.assertEqual([counting.value_of(count, great) for count in weights(table)], sizes)
        self.assert_call(tuple(sizes), weights_at, table=table, integer=great)
        for w in range(n + 1):
            for places in brute.sets(n):
                if len(places) <= w:
                    over = [count for one, count in found.items() if len(one) == w and set(places) <= set(one)]
                    self.assertEqual(counting.value_of(weight_over(table, w, places), great), sum(over))

    def test_each_field_has_stacks_of_three_words(self):
        three = {book.q for book, _ in BOOKS if book.dimension and (book.q**book.dimension) ** 3 <= STACKS}
        self.assertEqual(three, {2, 3, 4, 5})


class Sums(Case):
    """Counts of all tables, held against the sums over sets of places."""

    def test_counts_of_sets(self):
        for table in SMALL + GREAT_TABLES:
            counts = counting.SetCounts(table)
            for places in counts.sets:
                self.assertEqual(count_within(table, places), counts.within[places])
                self.assertEqual(count_of(table, places), counts.of[places])
            for places in counts.sets[:: 1 + len(counts.sets) // 20]:
                self.assertEqual(count_over(table, places), counts.over(places))

    def test_counts_are_zero_or_end_with_1(self):
        for table in SMALL + GREAT_TABLES[::3]:
            for places in brute.sets(rankings.PLACES[len(table)]):
                self.assertIn(count_of(table, places)[-1:], ((), (1,)))

    def test_by_position_and_by_name(self):
        table = GREAT_TABLES[-1]
        counts = counting.SetCounts(table)
        for places in ((), (3,), (2, 3, 6, 7), tuple(range(8))):
            self.assert_call(counts.within[places], count_within, table=table, places=places)
            self.assert_call(counts.of[places], count_of, table=table, places=places)
            self.assert_call(counts.over(places), count_over, table=table, places=places)

    def test_weights(self):
        for table in SMALL + GREAT_TABLES:
            counts = counting.SetCounts(table)
            wanted = counts.weights()
            self.assert_call(wanted, weights, table=table)
            self.assertEqual(counting.add(wanted), (0,) * counts.k + (1,))
            self.assert_call(counts.rank_counts(), rank_counts, table=table)

    def test_weight_over(self):
        for table in SMALL[::2] + GREAT_TABLES[::3]:
            counts = counting.SetCounts(table)
            for places in counts.sets[:: 1 + len(counts.sets) // 20]:
                for w in range(len(places), counts.n + 1):
                    self.assertEqual(weight_over(table, w, places), counts.weight_over(w, places))
        counts = counting.SetCounts(rankings.bookless())
        for w, places in ((5, (0, 1, 2)), (8, (0, 7)), (4, (0, 1, 2, 3)), (0, ()), (6, ())):
            wanted = counts.weight_over(w, places)
            self.assert_call(wanted, weight_over, table=rankings.bookless(), weight=w, places=places)

    def test_weights_at(self):
        for table in SMALL[::3] + GREAT_TABLES:
            wanted = counting.SetCounts(table).weights()
            for integer in (0, 1, -1, 2, 999999999999, -999999999999, 123456789012, -100000000000):
                values = tuple(counting.value_of(count, integer) for count in wanted)
                self.assert_call(values, weights_at, table=table, integer=integer)

    def test_trivial_tables(self):
        for n in range(1, 9):
            none, every = rankings.uniform(n, 0), rankings.uniform(n, n)
            self.assert_call(((1,),) + ((),) * n, weights, table=none)
            self.assert_call((1,), count_over, table=none, places=())
            self.assert_call((), count_over, table=none, places=(n - 1,))
            found = counting.raised((-1, 1), n)
            self.assert_call(found, count_of, table=every, places=tuple(range(n)))
            self.assert_call(found, count_over, table=every, places=tuple(range(n)))
            self.assert_call((0,) * n + (1,), count_within, table=every, places=tuple(range(n)))
            self.assert_same(rank_counts(none)[0], (1,))
            self.assert_same(rank_counts(every)[n], (0,) * n + (1,))


class SubBooks(Case):
    def test_counts_of_sub_books(self):
        random = Random(90)
        for q, n, k in ((2, 3, 3), (2, 4, 3), (2, 5, 3), (3, 3, 2), (3, 4, 3), (4, 3, 2), (4, 4, 2), (5, 3, 2)):
            rows = random_rows(random, q, n, k)
            table = table_of(Book(q, n, rows))
            found = [
                (brute.dimension(q, words), counting.support_of_all(n, words))
                for words in counting.sub_books(q, n, rows)
            ]
            for places in brute.sets(n):
                count = counting.SetCounts(table).of[places]
                many = [found.count((u, places)) for u in range(k + 1)]
                self.assert_call(tuple(many[: len(count)]), subcounts, q=q, polynomial=count)
                self.assertEqual(sum(many[len(count) :]), 0)

    def test_any_polynomial_is_turned_back(self):
        random = Random(91)
        polynomials = [(), (1,), (-GREAT,), (0, 1), (0, 0, 0, -2), (-1, 1), (7, -1, 0, 5)]
        polynomials += [tuple(GREAT - at for at in range(20)), (0,) * 19 + (GREAT,)]
        polynomials += [tuple(random.randrange(-GREAT, GREAT) for _ in range(20)) for _ in range(3)]
        for q in (2, 3, 4, 5):
            for one in polynomials:
                found = subcounts(q, one)
                self.assert_call(found, subcounts, q=q, polynomial=one)
                self.assertIs(type(found), tuple)
                self.assertTrue(all(is_int(item) for item in found))
                self.assertEqual(len(found), len(one))
                self.assertEqual(self.turned_back(q, found), one)

    def turned_back(self, q, integers):
        total, factors = (), (1,)
        for u, integer in enumerate(integers):
            total = counting.add([total, counting.scale(integer, factors)])
            factors = counting.multiply(factors, (-(q**u), 1))
        return total

    def test_wrong_arguments(self):
        fields = others(lambda thing: is_int(thing) and 2 <= thing <= 5)
        polynomials = [(0,), (1, 0), (True,), [1], *others(lambda thing: thing == () or self.ends_well(thing))]
        checks = (("q", BadField, [7, 1, *fields]), ("polynomial", BadPolynomial, polynomials))
        self.assert_errors(subcounts, {"q": 2, "polynomial": (1,)}, checks)

    def ends_well(self, thing):
        return type(thing) is tuple and all(map(is_int, thing)) and thing[-1] != 0


class CoverNumbers(Case):
    def test_each_b(self):
        for table in SMALL[::6] + [rankings.uniform(5, 2), rankings.uniform(7, 6), rankings.bookless()]:
            counts = counting.SetCounts(table)
            for places in counts.sets[:: 1 + len(counts.sets) // 12]:
                for b in range(2, 101):
                    self.assertEqual(cover_number(table, places, b), self.least(counts, places, b))

    def test_each_set(self):
        for table in SMALL + GREAT_TABLES:
            counts = counting.SetCounts(table)
            for places in counts.sets[:: 1 + len(counts.sets) // 100]:
                for b in (2, 3):
                    self.assertEqual(cover_number(table, places, b), self.least(counts, places, b))

    def least(self, counts, places, b):
        """The least m, looked for at b^0 to b^k alone; None for a set whose rest is not closed."""
        values = [counting.value_of(counts.of[places], b**m) for m in range(counts.k + 1)]
        rest = brute.rest(counts.n, places)
        closed = all(counts.rank[rankings.union(rest, (e,))] > counts.rank[rest] for e in places)
        self.assertEqual(any(values), closed)
        return min(m for m, value in enumerate(values) if value) if closed else None

    def test_least_numbers_of_words(self):
        for book, table in BOOKS:
            words = sorted(brute.span(book.q, book.n, book.rows))
            if len(words) ** min(book.dimension, 3) <= STACKS:
                found = [set(counting.supports_of_stacks(book.n, words, m)) for m in range(min(book.dimension, 3) + 1)]
                for places in brute.sets(book.n):
                    fit = [m for m, supports in enumerate(found) if places in supports]
                    wanted = cover_number(table, places, book.q)
                    self.assertEqual(min(fit, default=wanted), wanted)

    def test_by_position_and_by_name(self):
        table = rankings.uniform(7, 6)
        self.assert_call(0, cover_number, table=table, places=(), b=100)
        self.assert_call(None, cover_number, table=table, places=(1,), b=2)
        wanted = self.least(counting.SetCounts(table), tuple(range(7)), 2)
        self.assert_call(wanted, cover_number, table=table, places=tuple(range(7)), b=2)
        self.assertGreater(wanted, 1)

    def test_the_empty_set_and_no_words(self):
        for n in (1, 4, 8):
            for b in (2, 100):
                self.assert_call(0, cover_number, table=rankings.uniform(n, 0), places=(), b=b)
                self.assert_call(None, cover_number, table=rankings.uniform(n, 0), places=(0,), b=b)
                self.assert_call(0, cover_number, table=rankings.uniform(n, n), places=(), b=b)
                self.assert_call(1, cover_number, table=rankings.uniform(n, n), places=tuple(range(n)), b=b)


class WrongArguments(Case):
    def test_sets(self):
        for n in (1, 3, 8):
            right = {"table": rankings.uniform(n, 1), "places": (0,)}
            checks = (("table", BadTable, NO_TABLES), ("places", BadSet, no_sets(n)))
            for call in OF_A_SET:
                self.assert_errors(call, right, checks)

    def test_tables_alone(self):
        for thing in NO_TABLES:
            self.assert_error(BadTable(thing), weights, table=thing)
            self.assert_error(BadTable(thing), rank_counts, table=thing)
            self.assert_error(BadTable(thing), weights_at, table=thing, integer=3)

    def test_cover_number(self):
        for n in (3, 8):
            right = {"table": rankings.uniform(n, 1), "places": (0,), "b": 2}
            numbers = ("b", BadNumber, no_numbers(2, 100))
            checks = (("table", BadTable, NO_TABLES), ("places", BadSet, no_sets(n)), numbers)
            self.assert_errors(cover_number, right, checks)
            self.assert_errors(cover_number, {**right, "places": ()}, (numbers,))

    def test_weight_over(self):
        for n in (3, 8):
            right = {"table": rankings.uniform(n, 1), "weight": 1, "places": (0,)}
            sets = [(0, 1), tuple(range(n)), *no_sets(n)]
            weight = ("weight", BadNumber, no_numbers(0, n))
            checks = (("table", BadTable, NO_TABLES), weight, ("places", BadSet, sets))
            self.assert_errors(weight_over, right, checks)

    def test_sets_of_more_places_than_the_weight(self):
        table = rankings.uniform(8, 3)
        for places in brute.sets(8)[::11]:
            for w in range(9):
                if len(places) > w:
                    self.assert_error(BadSet(places), weight_over, table=table, weight=w, places=places)
                else:
                    weight_over(table, w, places)


class Examples(Case):
    def test_worked_out_by_hand(self):
        self.assert_same(count_of(R, (0, 1)), (-1, 1))
        self.assert_same(count_of(R, (0,)), ())
        self.assert_same(count_of(R, (0, 1, 2)), (2, -3, 1))
        self.assert_same(weights(R), ((1,), (), (-3, 3), (2, -3, 1)))
        self.assert_same(weights_at(R, 4), (1, 0, 9, 6))
        self.assert_same(rank_counts(R), ((1, 0, 0), (0, 3, 0), (0, 0, 3), (0, 0, 1)))
        self.assert_same(subcounts(2, (2, -3, 1)), (0, 0, 1))
        self.assert_same(cover_number(R, (0, 1, 2), 2), 2)
        self.assert_same(cover_number(R, (0, 1, 2), 3), 1)
        self.assert_same(cover_number(R, (0,), 2), None)


if __name__ == "__main__":
    unittest.main()
