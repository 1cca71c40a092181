"""mirrorbook/cuts.py: [5.1] Orders and cuts, [5.2] Spans."""

import unittest
from itertools import permutations
from random import Random

from mirrorbook.cuts import cut_bounds, cuts, ends, spans, starts
from mirrorbook.errors import BadOrder, BadTable
from mirrorbook.ladderpapers import judge_chain
from tests import counting, rankings
from tests.samples import Case, is_letters, others

P = (0, 1, 1, 1, 1, 2, 2, 2, 1, 2, 2, 2, 1, 2, 2, 2)
SMALL = rankings.small_tables()
CHAINLESS = rankings.beside(rankings.uniform(2, 1), rankings.uniform(4, 2))
GREAT_TABLES = counting.middle_tables() + rankings.great_tables() + counting.eight_tables() + [CHAINLESS]
NO_TABLES = rankings.no_tables()
OF_AN_ORDER = (cuts, spans, starts, ends)


def table_and_orders():
    """Tables with all orders of at most four places, or with some orders of more."""
    random = Random(120)
    found = []
    for table in SMALL + GREAT_TABLES:
        n = rankings.PLACES[len(table)]
        orders = list(permutations(range(n))) if n <= 4 else [tuple(range(n)), tuple(range(n))[::-1]]
        if n > 4:
            orders += [tuple(random.sample(range(n), n)) for _ in range(6)]
        found.append((table, orders))
    return found


TABLES_AND_ORDERS = table_and_orders()


class Ordered:
    """The cuts and spans of a table in an order, by the words of [5.1] and [5.2]."""

    def __init__(self, table, order):
        self.n = len(order)
        self.order = order
        self.rank = rankings.as_dict(table)
        self.k = table[-1]
        self.fronts = [tuple(sorted(order[:i])) for i in range(self.n + 1)]
        self.rests = [tuple(sorted(order[i:])) for i in range(self.n + 1)]
        self.cuts = tuple(self.rank[one] + self.rank[other] - self.k for one, other in zip(self.fronts, self.rests))
        pairs = [(a, b) for a in range(self.n) for b in range(a, self.n)]
        self.spans = tuple(pair for pair in pairs if self.difference(*pair) == 1)
        assert all(self.difference(*pair) in (0, 1) for pair in pairs)

    def hold(self, a, b):
        rest = [place for i, place in enumerate(self.order) if not a <= i <= b]
        return self.k - self.rank[tuple(sorted(rest))]

    def difference(self, a, b):
        return self.hold(a, b) - self.hold(a + 1, b) - self.hold(a, b - 1) + self.hold(a + 1, b - 1)

    def starts(self):
        """The positions at which the rank of the front grows."""
        return tuple(i for i in range(self.n) if self.rank[self.fronts[i + 1]] > self.rank[self.fronts[i]])


class Cuts(Case):
    def test_ranks_of_fronts_and_rests(self):
        for table, orders in TABLES_AND_ORDERS:
            for order in orders:
                ordered = Ordered(table, order)
                found = cuts(table, order)
                self.assert_same(found, ordered.cuts)
                self.assertEqual(found, cuts(rankings.mirrored(table), order))
                self.assertEqual((found[0], found[-1]), (0, 0))
                self.assertTrue(all(abs(one - other) <= 1 for one, other in zip(found, found[1:])))
                self.assertLessEqual(max(found), min(ordered.k, ordered.n - ordered.k))

    def test_bounds(self):
        below = set()
        for table, orders in TABLES_AND_ORDERS:
            n = rankings.PLACES[len(table)]
            rank = rankings.as_dict(table)
            least = [min(rank[one] for one in rank if len(one) == t) for t in range(n + 1)]
            wanted = tuple(least[i] + least[n - i] - table[-1] for i in range(n + 1))
            self.assert_call(wanted, cut_bounds, table=table)
            for order in orders:
                self.assertTrue(all(one >= other for one, other in zip(cuts(table, order), wanted)))
            below.add(min(wanted) < 0)
        self.assertEqual(below, {True, False})

    def test_smooth_orders_have_chains(self):
        smooth = set()
        for table, orders in TABLES_AND_ORDERS:
            for order in orders:
                fits = cuts(table, order) == cut_bounds(table)
                if fits:
                    self.assertEqual(judge_chain(table)[0], "chain")
                    self.assertEqual(judge_chain(rankings.mirrored(table))[0], "chain")
                smooth.add(fits)
        self.assertEqual(smooth, {True, False})

    def test_by_position_and_by_name(self):
        table, order = rankings.bookless(), (3, 0, 7, 5, 1, 2, 6, 4)
        ordered = Ordered(table, order)
        self.assert_call(ordered.cuts, cuts, table=table, order=order)
        self.assert_call(ordered.spans, spans, table=table, order=order)
        self.assert_call(ordered.starts(), starts, table=table, order=order)
        self.assert_call(tuple(sorted(b for _, b in ordered.spans)), ends, table=table, order=order)


class Spans(Case):
    def test_by_holds(self):
        for table, orders in TABLES_AND_ORDERS:
            for order in orders:
                ordered = Ordered(table, order)
                self.assert_same(spans(table, order), ordered.spans)
                self.assertEqual(len(ordered.spans), ordered.k)
                for i in range(ordered.n + 1):
                    self.assertEqual(ordered.cuts[i], sum(1 for a, b in ordered.spans if a < i <= b))

    def test_starts_and_ends(self):
        for table, orders in TABLES_AND_ORDERS:
            mirrored = rankings.mirrored(table)
            for order in orders:
                ordered = Ordered(table, order)
                positions = set(range(ordered.n))
                found = (starts(table, order), ends(table, order))
                self.assert_same(found[0], ordered.starts())
                self.assert_same(found[0], tuple(sorted({a for a, _ in ordered.spans})))
                self.assert_same(found[1], tuple(sorted({b for _, b in ordered.spans})))
                self.assertEqual([len(some) for some in found], [ordered.k, ordered.k])
                self.assertEqual(set(found[1]), positions - set(Ordered(mirrored, order).starts()))
                self.assertEqual(set(found[0]), positions - set(ends(mirrored, order)))

    def test_no_words_and_all_words(self):
        for n in range(1, 9):
            order = tuple(range(n))[::-1]
            self.assert_call((), spans, table=rankings.uniform(n, 0), order=order)
            self.assert_call(tuple((i, i) for i in range(n)), spans, table=rankings.uniform(n, n), order=order)
            self.assert_call(((0, n - 1),), spans, table=rankings.uniform(n, 1), order=order)
            self.assert_call((0,) * (n + 1), cuts, table=rankings.uniform(n, n), order=order)


class WrongArguments(Case):
    def test_errors_in_their_order(self):
        for n in (1, 3, 8):
            fits = others(lambda thing: is_letters(n, thing) and sorted(thing) == list(range(n)))
            orders = [tuple(range(n + 1)), (0,) * n + (n,), list(range(n)), tuple(range(n - 1)), *fits]
            right = {"table": rankings.uniform(n, 1), "order": tuple(range(n))}
            for call in OF_AN_ORDER:
                self.assert_errors(call, right, (("table", BadTable, NO_TABLES), ("order", BadOrder, orders)))

    def test_bounds_of_no_table(self):
        for thing in NO_TABLES:
            self.assert_error(BadTable(thing), cut_bounds, table=thing)


class Examples(Case):
    def test_worked_out_by_hand(self):
        self.assert_same(cuts(P, (0, 1, 2, 3)), (0, 1, 0, 1, 0))
        self.assert_same(cut_bounds(P), (0, 1, 0, 1, 0))
        self.assert_same(cuts(P, (0, 2, 1, 3)), (0, 1, 2, 1, 0))
        self.assert_same(spans(P, (0, 2, 1, 3)), ((0, 2), (1, 3)))


if __name__ == "__main__":
    unittest.main()
