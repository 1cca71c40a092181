"""mirrorbook/tables.py: [2.1] Ranks, [2.2] Tables."""

import unittest
from itertools import product
from random import Random

from mirrorbook.books import Book
from mirrorbook.errors import BadNumber, BadPlaces, BadSet, BadTable
from mirrorbook.tables import (
    fault_holds,
    first_fault,
    full_rank,
    is_table,
    places_of,
    rank,
    set_number,
    set_of,
    table_of,
    uniform_table,
)
from tests import brute, rankings
from tests.samples import GREAT, Case, any_values, is_int, is_places, others, random_rows, same, unit_rows

E_RANKS = (0, 1, 1, 2, 1, 2, 2, 2)
TABLES = rankings.small_tables() + rankings.great_tables()


def no_ranks():
    """Values that are no tuples of 2 ** n integers."""
    lengths = [n for n in range(18) if n not in rankings.PLACES] + [31, 33, 127, 255, 257, 512]
    found = [tuple(0 for _ in range(n)) for n in lengths]
    for thing in (True, False, None, "1", (1,), [1], {}):
        found += [E_RANKS[:at] + (thing,) + E_RANKS[at + 1 :] for at in range(8)]
    return found + [list(E_RANKS), (E_RANKS,), *others(rankings.fits_ranks)]


def changed_ranks(random, table, many):
    """The ranks with some of them changed."""
    ranks = list(table)
    for at in random.sample(range(len(ranks)), min(many, len(ranks))):
        ranks[at] += random.choice((-2, -1, 1, 2, GREAT))
    return tuple(ranks)


def sample_ranks():
    """Tables, and tuples of ranks that are none, also with the first rank changed."""
    random = Random(61)
    found = list(TABLES)
    for table in rankings.small_tables():
        found += [changed_ranks(random, table, many) for many in (1, 1, 2, 3)]
        found.append((1,) + table[1:])
        found.append((-1,) + table[1:])
        found.append(tuple(item + 1 for item in table))
    return found


class Numbers(Case):
    def test_both_ways(self):
        for places in brute.sets(8):
            self.assert_call(brute.number_of(places), set_number, places=places)
            self.assert_call(places, set_of, number=brute.number_of(places))

    def test_wrong_sets(self):
        wrong = [(8,), (0, 8), (1, 0), (3, 3), (-1, 2), [1, 2]]
        for places in wrong + others(lambda thing: is_places(8, thing)):
            self.assert_error(BadSet(places), set_number, places=places)

    def test_wrong_numbers(self):
        for number in [256, -1, (1,), *others(lambda thing: is_int(thing) and 0 <= thing < 256)]:
            self.assert_error(BadNumber(number), set_of, number=number)


class Tables(Case):
    def test_every_tuple_of_one_and_two_places(self):
        for n, values in ((1, range(-2, 4)), (2, range(-1, 4))):
            for ranks in product(values, repeat=2**n):
                self.assertIs(is_table(ranks), rankings.is_table(ranks), ranks)
                self.assertEqual(is_table(ranks), not rankings.faults(ranks))

    def test_tables_and_others(self):
        for ranks in sample_ranks():
            if len(ranks) <= 16:
                self.assert_call(rankings.is_table(ranks), is_table, thing=ranks)
            self.assert_call(not rankings.faults(ranks), is_table, thing=ranks)
        for table in TABLES:
            self.assert_call(True, is_table, thing=table)

    def test_any_value(self):
        for thing in no_ranks():
            self.assert_call(False, is_table, thing=thing)
        for table in TABLES[:20]:
            self.assert_call(False, is_table, thing=table[:-1])
            self.assert_call(False, is_table, thing=table + (0,))

    def test_no_more_than_eight_places(self):
        self.assert_call(True, is_table, thing=(0,) * 256)
        self.assert_call(False, is_table, thing=(0,) * 512)
        self.assert_call(False, is_table, thing=(0,))


class Faults(Case):
    def test_the_fault_that_stands_first(self):
        for ranks in sample_ranks():
            found = rankings.faults(ranks)
            self.assert_call(found[0] if found else None, first_fault, ranks=ranks)

    def test_each_right_fault_and_nothing_else(self):
        for ranks in sample_ranks():
            if len(ranks) <= 16:
                right = rankings.faults(ranks)
                for thing in self.all_that_could_be(rankings.PLACES[len(ranks)]):
                    self.assertIs(fault_holds(ranks, thing), thing in right, (ranks, thing))

    def all_that_could_be(self, n):
        places = range(-1, n + 1)
        found = [("start",), ("start", ()), ("step",), ("pair",), (), ("step", ()), ("pair", ())]
        for one in [*brute.sets(n), (n,), (0, 0), (1, 0)]:
            found += [("step", one, e) for e in places]
            found += [("pair", one, e) for e in places[:2]]
            found += [("step", one, e, e + 1) for e in places[:2]]
            found += [("pair", one, e, f) for e in places for f in places]
        return found

    def test_great_faults(self):
        random = Random(62)
        for table in rankings.great_tables():
            for many in (1, 2, 3):
                ranks = changed_ranks(random, table, many)
                right = rankings.faults(ranks)
                self.assertEqual(first_fault(ranks), right[0])
                for thing in right[:200]:
                    self.assertIs(fault_holds(ranks, thing), True)
                    self.assertIs(fault_holds(table, thing), False)

    def test_changed_faults(self):
        for ranks, fault in (
            ((1, 1, 1, 1), ("start",)),
            ((0, 1, 0, 0), ("step", (0,), 1)),
            ((0, 0, 0, 1), ("pair", (), 0, 1)),
            ((0, 0, 0, 0, 0, 0, 1, 0), ("pair", (), 1, 2)),
        ):
            self.assert_call(True, fault_holds, ranks=ranks, thing=fault)
            self.assert_call(False, fault_holds, ranks=ranks, thing=list(fault))
            self.assert_call(False, fault_holds, ranks=ranks, thing=fault + fault)
            for thing in any_values():
                self.assert_call(False, fault_holds, ranks=ranks, thing=fault + (thing,))
                if thing != ("start",) or fault != ("start",):
                    self.assert_call(False, fault_holds, ranks=ranks, thing=thing)
                for at in range(len(fault)):
                    changed = fault[:at] + (thing,) + fault[at + 1 :]
                    if not any(same(changed, right) for right in rankings.faults(ranks)):
                        self.assert_call(False, fault_holds, ranks=ranks, thing=changed)

    def test_no_ranks(self):
        for ranks in no_ranks():
            self.assert_error(BadTable(ranks), first_fault, ranks=ranks)
            self.assert_error(BadTable(ranks), fault_holds, ranks=ranks, thing=("start",))
            self.assert_error(BadTable(ranks), fault_holds, ranks=ranks, thing=ranks)


class TablesOfBooks(Case):
    def test_count_of_words_that_are_zero_there(self):
        for book, table in rankings.book_tables():
            self.assert_call(table, table_of, book=book)

    def test_more_places(self):
        random = Random(63)
        for q, n in ((2, 8), (3, 7), (4, 6), (5, 8)):
            rows = random_rows(random, q, n, 3)
            wanted = rankings.table_by_words(q, n, brute.span(q, n, rows))
            self.assert_call(wanted, table_of, book=Book(q, n, rows))

    def test_trivial_books(self):
        for q in (2, 3, 4, 5):
            for n in (1, 2, 8):
                self.assert_call(rankings.uniform(n, 0), table_of, book=Book(q, n, ()))
                self.assert_call(rankings.uniform(n, 1), table_of, book=Book(q, n, ((q - 1,) * n,)))
                self.assert_call(rankings.uniform(n, n), table_of, book=Book(q, n, unit_rows(n)))

    def test_the_table_of_each_book_is_a_table(self):
        random = Random(64)
        for q in (2, 3, 4, 5):
            for n in range(1, 9):
                self.assertTrue(is_table(table_of(Book(q, n, random_rows(random, q, n, 4)))))


class UniformTables(Case):
    def test_all_of_them(self):
        for n in range(1, 9):
            for k in range(n + 1):
                self.assert_call(rankings.uniform(n, k), uniform_table, n=n, k=k)
                self.assertTrue(is_table(uniform_table(n, k)))

    def test_wrong_numbers(self):
        for n in others(lambda thing: is_int(thing) and 1 <= thing <= 8):
            self.assert_error(BadPlaces(n), uniform_table, n=n, k=0)
            self.assert_error(BadPlaces(n), uniform_table, n=n, k=n)
        for n in (1, 2, 7, 8):
            for k in [n + 1, -1, *others(lambda thing: is_int(thing) and 0 <= thing <= n)]:
                self.assert_error(BadNumber(k), uniform_table, n=n, k=k)


class RanksOfTables(Case):
    def test_all_sets(self):
        for table in TABLES:
            self.assert_call(rankings.PLACES[len(table)], places_of, table=table)
            for places, wanted in rankings.as_dict(table).items():
                self.assertEqual(rank(table, places), wanted)
            self.assert_call(wanted, rank, table=table, places=places)
            self.assert_call(wanted, full_rank, table=table)

    def test_wrong_tables(self):
        wrong = [ranks for ranks in sample_ranks() if rankings.faults(ranks)]
        for thing in wrong + no_ranks():
            self.assert_error(BadTable(thing), places_of, table=thing)
            self.assert_error(BadTable(thing), full_rank, table=thing)
            self.assert_error(BadTable(thing), rank, table=thing, places=())
            self.assert_error(BadTable(thing), rank, table=thing, places=thing)

    def test_wrong_sets(self):
        for n in (1, 3, 8):
            table = uniform_table(n, 1)
            for places in [(n,), (0, 0), list(range(n)), *others(lambda thing: is_places(n, thing))]:
                self.assert_error(BadSet(places), rank, table=table, places=places)


class Examples(Case):
    def test_worked_out_by_hand(self):
        self.assert_same(table_of(Book(2, 3, ((1, 1, 0), (0, 1, 1)))), E_RANKS)
        self.assert_same(uniform_table(3, 2), E_RANKS)
        self.assert_same(first_fault((0, 1, 0, 0)), ("step", (0,), 1))
        self.assert_same(first_fault((0, 0, 0, 1)), ("pair", (), 0, 1))
        self.assert_same(first_fault((0, 0, 0, -1)), ("pair", (), 0, 1))
        self.assert_call(True, fault_holds, ranks=(0, 0, 0, -1), thing=("step", (0,), 1))
        self.assert_error(BadTable((0, 1, 2)), first_fault, ranks=(0, 1, 2))


if __name__ == "__main__":
    unittest.main()
