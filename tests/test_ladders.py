"""mirrorbook/ladders.py: [4.1] Holds, [4.2] Ladders, [4.3] Two ladders, [4.5] Least sets, [4.7] Bounds for letters."""

import unittest
from random import Random

from mirrorbook.books import Book
from mirrorbook.errors import BadField, BadNumber, BadPlaces, BadTable
from mirrorbook.ladders import gap, greatest_holds, ladder, least_ranks, least_sets, mirror_ladder
from mirrorbook.tables import table_of
from tests import brute, counting, rankings
from tests.samples import Case, is_int, is_places, others, random_rows

P = (0, 1, 1, 1, 1, 2, 2, 2, 1, 2, 2, 2, 1, 2, 2, 2)
U = rankings.uniform(4, 2)
BOOKS = rankings.book_tables()
TABLES = (
    rankings.small_tables()
    + counting.middle_tables()
    + rankings.great_tables()
    + counting.eight_tables()
    + [rankings.uniform(n, k) for n in range(5, 9) for k in (0, 1, n - 1, n)]
)
NO_TABLES = rankings.no_tables()


def holds(table):
    """The holds of all sets of a table."""
    n = rankings.PLACES[len(table)]
    rank = rankings.as_dict(table)
    return {places: table[-1] - rank[brute.rest(n, places)] for places in rank}


def steps_of(table):
    """The ladder, looked for among all sets."""
    found = holds(table)
    return tuple(min(len(places) for places in found if found[places] >= j) for j in range(1, table[-1] + 1))


def gap_of(steps, q):
    """The least j for which the inequality of [4.7] is not so."""
    fit = [j for j in range(2, len(steps) + 1) if (q**j - 1) * steps[j - 2] > (q**j - q) * steps[j - 1]]
    return min(fit, default=None)


class Ladders(Case):
    def test_steps(self):
        for table in TABLES:
            self.assert_call(steps_of(table), ladder, table=table)

    def test_least_ranks_and_greatest_holds(self):
        for table in TABLES:
            n = rankings.PLACES[len(table)]
            rank, hold = rankings.as_dict(table), holds(table)
            ranks = tuple(min(rank[one] for one in rank if len(one) == t) for t in range(n + 1))
            most = tuple(max(hold[one] for one in hold if len(one) == t) for t in range(n + 1))
            self.assert_call(ranks, least_ranks, table=table)
            self.assert_call(most, greatest_holds, table=table)

    def test_no_steps_and_all_steps(self):
        for n in range(1, 9):
            self.assert_call((), ladder, table=rankings.uniform(n, 0))
            self.assert_call(tuple(range(1, n + 1)), ladder, table=rankings.uniform(n, n))
            self.assert_call((0,) * (n + 1), least_ranks, table=rankings.uniform(n, 0))
            self.assert_call(tuple(range(n + 1)), greatest_holds, table=rankings.uniform(n, n))

    def test_wrong_tables(self):
        for thing in NO_TABLES:
            for call in (ladder, least_ranks, greatest_holds):
                self.assert_error(BadTable(thing), call, table=thing)


class MirrorLadders(Case):
    def test_ladders_of_mirrors(self):
        for table in TABLES:
            n = rankings.PLACES[len(table)]
            other = steps_of(rankings.mirrored(table))
            self.assert_call(other, mirror_ladder, n=n, steps=ladder(table))
            self.assertEqual(ladder(rankings.mirrored(table)), other)
            both = [*ladder(table), *(n + 1 - step for step in other)]
            self.assertEqual(sorted(both), list(range(1, n + 1)))

    def test_all_steps_that_there_can_be(self):
        for n in range(1, 9):
            for places in brute.sets(n):
                steps = tuple(place + 1 for place in places)
                wanted = tuple(sorted(set(range(1, n + 1)) - {n + 1 - step for step in steps}))
                self.assert_call(wanted, mirror_ladder, n=n, steps=steps)

    def test_none_and_all(self):
        for n in range(1, 9):
            self.assert_call(tuple(range(1, n + 1)), mirror_ladder, n=n, steps=())
            self.assert_call((), mirror_ladder, n=n, steps=tuple(range(1, n + 1)))

    def test_wrong_arguments(self):
        places = [9, 0, *others(lambda thing: is_int(thing) and 1 <= thing <= 8)]
        for n in (1, 3, 8):
            right = [steps for steps in brute.sets(n + 1) if 0 not in steps]
            steps = [(0,), (0, 1), (n + 1,), (1, 1), (n, 1, n), [1], (True,)]
            steps += others(lambda thing: is_places(n + 1, thing) and thing in right)
            checks = (("n", BadPlaces, places), ("steps", BadNumber, steps))
            self.assert_errors(mirror_ladder, {"n": n, "steps": (1,)}, checks)


class LeastSets(Case):
    def test_all_of_them_in_order(self):
        for table in TABLES:
            steps, hold = steps_of(table), holds(table)
            for j in range(1, table[-1] + 1):
                wanted = [places for places in hold if len(places) == steps[j - 1] and hold[places] >= j]
                wanted = tuple(sorted(wanted, key=lambda places: (len(places), places)))
                self.assert_call(wanted, least_sets, table=table, j=j)
                self.assertTrue(all(hold[places] == j for places in wanted))

    def test_wrong_arguments(self):
        for n, k in ((1, 1), (3, 2), (8, 4)):
            numbers = [0, k + 1, n + 1, *others(lambda thing: is_int(thing) and 1 <= thing <= k)]
            checks = (("table", BadTable, NO_TABLES), ("j", BadNumber, numbers))
            self.assert_errors(least_sets, {"table": rankings.uniform(n, k), "j": 1}, checks)
        for n in (1, 4, 8):
            for j in (0, 1, n, None):
                self.assert_error(BadNumber(j), least_sets, table=rankings.uniform(n, 0), j=j)


class Gaps(Case):
    def test_the_inequality(self):
        found = set()
        for table in TABLES + [rankings.uniform(n, k) for n in range(2, 9) for k in range(2, n)]:
            for q in (2, 3, 4, 5):
                wanted = gap_of(steps_of(table), q)
                self.assert_call(wanted, gap, table=table, q=q)
                found.add((q, wanted))
        self.assertLessEqual({(q, wanted) for q in (2, 3, 4, 5) for wanted in (None, 2)}, found)

    def test_a_later_gap(self):
        """Uniform tables with a place more that each word needs have their first gap behind the step 2."""
        found = set()
        for one in range(1, 8):
            for n in range(2, 9 - one):
                for k in range(1, n):
                    table = rankings.beside(rankings.uniform(one, 1), rankings.uniform(n, k))
                    for q in (2, 3, 4, 5):
                        wanted = gap_of(steps_of(table), q)
                        self.assertEqual(gap(table, q), wanted)
                        found.add(wanted)
        self.assertLessEqual({None, 2, 3}, found)

    def test_books_have_none(self):
        random = Random(100)
        for book, table in BOOKS:
            self.assert_call(None, gap, table=table, q=book.q)
        for q in (2, 3, 4, 5):
            for n in range(4, 9):
                for _ in range(4):
                    table = table_of(Book(q, n, random_rows(random, q, n, random.randrange(2, n))))
                    self.assert_call(None, gap, table=table, q=q)

    def test_wrong_arguments(self):
        fields = [6, 1, *others(lambda thing: is_int(thing) and 2 <= thing <= 5)]
        checks = (("table", BadTable, NO_TABLES), ("q", BadField, fields))
        for table in (U, rankings.uniform(3, 0), rankings.bookless()):
            self.assert_errors(gap, {"table": table, "q": 2}, checks)


class Examples(Case):
    def test_worked_out_by_hand(self):
        self.assert_same(table_of(Book(2, 4, ((1, 1, 0, 0), (0, 0, 1, 1)))), P)
        self.assert_same(ladder(P), (2, 4))
        self.assert_same(ladder(U), (3, 4))
        self.assert_same(mirror_ladder(4, (2, 4)), (2, 4))
        self.assert_same(least_ranks(P), (0, 1, 1, 2, 2))
        self.assert_same(greatest_holds(P), (0, 0, 1, 1, 2))
        self.assert_same(least_sets(P, 1), ((0, 1), (2, 3)))
        self.assert_same(gap(U, 2), 2)
        self.assert_same(gap(U, 3), None)


if __name__ == "__main__":
    unittest.main()
