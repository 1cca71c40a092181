"""mirrorbook/tableforms.py: [2.3] Mirrors, [2.6] Tables made of tables."""

import unittest
from itertools import permutations
from random import Random

from mirrorbook import bookforms
from mirrorbook.books import Book
from mirrorbook.errors import BadOrder, BadPlace, BadPlaces, BadSet, BadTable
from mirrorbook.tableforms import (
    mirror_table,
    table_fixed,
    table_repeated,
    table_turned,
    table_without,
    tables_beside,
)
from mirrorbook.tables import table_of
from tests import brute, rankings
from tests.samples import Case, is_int, is_letters, is_places, others, random_rows

BOOKS = rankings.book_tables()
TABLES = rankings.small_tables()
GREAT_TABLES = rankings.great_tables()
NO_TABLES = rankings.no_tables()
R = (0, 1, 1, 2, 1, 2, 2, 2)


def great_books():
    """Books of seven and eight places."""
    random = Random(70)
    return [Book(q, n, random_rows(random, q, n, 4)) for q in (2, 3, 4, 5) for n in (7, 8)]


def renumbered(n, kept, rank_of):
    """The table of the places kept, renumbered in their order, with the ranks of the old sets."""
    return rankings.as_ranks(n, lambda places: rank_of(tuple(kept[place] for place in places)))


class Mirrors(Case):
    def test_ranks(self):
        for table in TABLES + GREAT_TABLES:
            found = mirror_table(table)
            self.assert_same(found, rankings.mirrored(table))
            self.assert_call(table, mirror_table, table=found)

    def test_mirrors_of_books(self):
        for book, table in BOOKS:
            listed = brute.checks(book.q, book.n, book.rows)
            self.assertEqual(mirror_table(table), rankings.table_by_words(book.q, book.n, listed))
        for book in [book for book, _ in BOOKS] + great_books():
            self.assertEqual(mirror_table(table_of(book)), table_of(bookforms.mirror(book)))


class LeftOut(Case):
    def test_ranks(self):
        for table in TABLES:
            n = rankings.PLACES[len(table)]
            for places in brute.sets(n)[:-1]:
                self.assert_left_out(table, n, places)
        for table in GREAT_TABLES:
            n = rankings.PLACES[len(table)]
            for places in ((), (0,), (n - 1,), (1, 3), (0, 2, 4, 5), tuple(range(n - 1)), tuple(range(1, n))):
                self.assert_left_out(table, n, places)

    def assert_left_out(self, table, n, places):
        rank = rankings.as_dict(table)
        kept = brute.rest(n, places)
        without = renumbered(len(kept), kept, lambda olds: rank[olds])
        fixed = renumbered(len(kept), kept, lambda olds: rank[rankings.union(olds, places)] - rank[places])
        self.assert_call(without, table_without, table=table, places=places)
        self.assert_call(fixed, table_fixed, table=table, places=places)
        self.assertEqual(mirror_table(without), table_fixed(mirror_table(table), places))

    def test_tables_of_books(self):
        for book, table in BOOKS:
            for places in brute.sets(book.n)[:-1]:
                self.assert_book(book, table, places)
        for book in great_books():
            for places in ((), (0,), (2, 6), (0, 1, 3, 5, 6)):
                self.assert_book(book, table_of(book), places)

    def assert_book(self, book, table, places):
        self.assertEqual(table_without(table, places), table_of(bookforms.without(book, places)))
        self.assertEqual(table_fixed(table, places), table_of(bookforms.fixed(book, places)))

    def test_wrong_sets(self):
        for n in (1, 3, 8):
            table = rankings.uniform(n, 1)
            every = tuple(range(n))
            wrong = others(lambda thing: is_places(n, thing) and thing != every)
            for places in [every, (n,), (0, 0), [0], *wrong]:
                self.assert_error(BadSet(places), table_without, table=table, places=places)
                self.assert_error(BadSet(places), table_fixed, table=table, places=places)


class Beside(Case):
    def test_ranks(self):
        for one in TABLES[::3] + [rankings.bookless()]:
            for other in TABLES[::2]:
                self.assert_beside(one, other)
                self.assert_beside(other, one)

    def assert_beside(self, one, other):
        first, second = rankings.PLACES[len(one)], rankings.PLACES[len(other)]
        if first + second > 8:
            self.assert_error(BadPlaces(first + second), tables_beside, one=one, other=other)
            return
        left, right = rankings.as_dict(one), rankings.as_dict(other)
        wanted = rankings.as_ranks(first + second, lambda places: self.both(left, right, first, places))
        self.assert_call(wanted, tables_beside, one=one, other=other)

    def both(self, left, right, first, places):
        ahead = tuple(place for place in places if place < first)
        behind = tuple(place - first for place in places if place >= first)
        return left[ahead] + right[behind]

    def test_tables_of_books(self):
        for one, left in BOOKS[::2]:
            for other, right in BOOKS:
                if one.q == other.q:
                    self.assertEqual(tables_beside(left, right), table_of(bookforms.beside(one, other)))


class Repeated(Case):
    def test_ranks(self):
        for table in TABLES + GREAT_TABLES:
            n = rankings.PLACES[len(table)]
            rank = rankings.as_dict(table)
            for place in range(n):
                if n == 8:
                    self.assert_error(BadPlaces(9), table_repeated, table=table, place=place)
                else:
                    wanted = rankings.as_ranks(n + 1, lambda places: rank[self.in_its_stead(places, n, place)])
                    self.assert_call(wanted, table_repeated, table=table, place=place)

    def in_its_stead(self, places, n, place):
        return tuple(sorted({place if other == n else other for other in places}))

    def test_tables_of_books(self):
        for book in [book for book, _ in BOOKS] + great_books():
            if book.n < 8:
                for place in range(book.n):
                    made = table_of(bookforms.repeated(book, place))
                    self.assertEqual(table_repeated(table_of(book), place), made)

    def test_wrong_places(self):
        for n in (1, 3, 8):
            table = rankings.uniform(n, 1)
            for place in [n, *others(lambda thing: is_int(thing) and 0 <= thing < n)]:
                self.assert_error(BadPlace(place), table_repeated, table=table, place=place)


class Turned(Case):
    def test_ranks(self):
        random = Random(71)
        for table in TABLES:
            for order in permutations(range(rankings.PLACES[len(table)])):
                self.assert_turned(table, order)
        for table in GREAT_TABLES:
            n = rankings.PLACES[len(table)]
            self.assert_turned(table, tuple(random.sample(range(n), n)))

    def assert_turned(self, table, order):
        rank = rankings.as_dict(table)
        wanted = rankings.as_ranks(
            len(order), lambda places: rank[tuple(sorted(order[place] for place in places))]
        )
        self.assert_call(wanted, table_turned, table=table, order=order)

    def test_tables_of_books(self):
        random = Random(72)
        for book in [book for book, _ in BOOKS] + great_books():
            order = tuple(random.sample(range(book.n), book.n))
            factors = tuple(random.randrange(1, book.q) for _ in order)
            made = table_of(bookforms.turned(book, order, factors))
            self.assertEqual(table_turned(table_of(book), order), made)

    def test_wrong_orders(self):
        for n in (1, 3, 8):
            table = rankings.uniform(n, 1)
            wrong = others(lambda thing: is_letters(n, thing) and sorted(thing) == list(range(n)))
            for order in [tuple(range(n + 1)), (0,) * n + (n,), list(range(n)), *wrong]:
                self.assert_error(BadOrder(order), table_turned, table=table, order=order)


class WrongTables(Case):
    def test_ahead_of_all_other_errors(self):
        for thing in NO_TABLES:
            self.assert_error(BadTable(thing), mirror_table, table=thing)
            for call in (table_without, table_fixed):
                for places in ((), (0,), (9,), thing):
                    self.assert_error(BadTable(thing), call, table=thing, places=places)
            for place in (0, 9, thing):
                self.assert_error(BadTable(thing), table_repeated, table=thing, place=place)
            for order in ((0,), (1, 1), thing):
                self.assert_error(BadTable(thing), table_turned, table=thing, order=order)

    def test_the_first_of_two(self):
        great = rankings.bookless()
        for thing in NO_TABLES:
            for other in (R, great, (), [0, 1], thing):
                self.assert_error(BadTable(thing), tables_beside, one=thing, other=other)
            for one in (R, great):
                self.assert_error(BadTable(thing), tables_beside, one=one, other=thing)


if __name__ == "__main__":
    unittest.main()
