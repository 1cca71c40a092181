"""mirrorbook/tableforms.py: [2.4] Kinds of sets, [2.5] Pieces."""

import unittest
from itertools import combinations, product

from mirrorbook.bookforms import beside
from mirrorbook.books import Book
from mirrorbook.errors import BadPlace, BadSet, BadTable
from mirrorbook.tableforms import (
    bases,
    closed_sets,
    closure,
    covers,
    hold,
    is_closed,
    is_cover,
    is_free,
    judge_places,
    mirror_table,
    pieces,
    places_holds,
    rings,
    tables_beside,
)
from mirrorbook.tables import table_of
from tests import brute, rankings
from tests.samples import Case, any_values, is_int, is_places, others, same

E = Book(2, 3, ((1, 1, 0), (0, 1, 1)))
R = (0, 1, 1, 2, 1, 2, 2, 2)
BESIDE = table_of(beside(E, Book(2, 2, ((1, 1),))))
APART = [
    tables_beside(rankings.uniform(2, 1), rankings.uniform(2, 0)),
    tables_beside(rankings.uniform(3, 2), rankings.uniform(1, 1)),
    tables_beside(rankings.uniform(4, 2), rankings.fano(True)[:8]),
    tables_beside(tables_beside(rankings.uniform(2, 1), rankings.uniform(3, 1)), rankings.uniform(3, 2)),
    BESIDE,
]
SMALL = rankings.small_tables() + APART[:2]
GREAT = rankings.great_tables() + APART[2:]
OF_A_SET = (hold, closure, is_free, is_closed, is_cover)
OF_A_TABLE = (bases, rings, closed_sets, covers, pieces)
NO_TABLES = rankings.no_tables()


class Kinds:
    """The kinds of all sets of a table, by their definitions."""

    def __init__(self, table):
        self.n = rankings.PLACES[len(table)]
        self.rank = rankings.as_dict(table)
        self.sets = brute.sets(self.n)
        self.every = tuple(range(self.n))
        self.free = [one for one in self.sets if self.rank[one] == len(one)]
        self.bases = [one for one in self.free if self.rank[one] == self.rank[self.every]]
        self.rings = [one for one in self.sets if self.is_ring(one)]
        self.closed = [one for one in self.sets if self.closure(one) == one]
        self.covers = [one for one in self.sets if brute.rest(self.n, one) in self.closed]
        self.parting = [one for one in self.sets if self.does_part(one)]

    def is_ring(self, one):
        lesser = combinations(one, len(one) - 1) if one else []
        return one not in self.free and all(less in self.free for less in lesser)

    def closure(self, one):
        rank = self.rank[one]
        return tuple(e for e in self.every if e in one or self.rank[rankings.union(one, (e,))] == rank)

    def does_part(self, one):
        return self.rank[one] + self.rank[brute.rest(self.n, one)] == self.rank[self.every]

    def pieces(self):
        """The sets that part, are not () and have no other such set within them."""
        some = [one for one in self.parting if one]
        return sorted(one for one in some if not any(other != one and set(other) <= set(one) for other in some))

    def right_papers(self, one, other):
        found = [("ring", ring) for ring in self.rings if one in ring and other in ring]
        return found + [("parted", places) for places in self.parting if one in places and other not in places]


class OfASet(Case):
    def test_each_set(self):
        for table in SMALL + GREAT:
            kinds = Kinds(table)
            for places in kinds.sets:
                rest = brute.rest(kinds.n, places)
                wanted = kinds.rank[kinds.every] - kinds.rank[rest]
                self.assertEqual(hold(table, places), wanted)
                self.assertEqual(closure(table, places), kinds.closure(places))
                self.assertIs(is_free(table, places), places in kinds.free)
                self.assertIs(is_closed(table, places), places in kinds.closed)
                self.assertIs(is_cover(table, places), places in kinds.covers)

    def test_by_position_and_by_name(self):
        for call, wanted in zip(OF_A_SET, (1, (1, 2), True, False, False)):
            table = (0, 1, 1, 2, 1, 2, 1, 2)
            self.assert_call(wanted, call, table=table, places=(1,) if call != hold else (0,))

    def test_wrong_arguments(self):
        for call in OF_A_SET:
            for thing in NO_TABLES:
                for places in ((), (0,), (9,), thing):
                    self.assert_error(BadTable(thing), call, table=thing, places=places)
            for n in (1, 3, 8):
                table = rankings.uniform(n, 1)
                for places in [(n,), (0, 0), [0], (-1,), *others(lambda thing: is_places(n, thing))]:
                    self.assert_error(BadSet(places), call, table=table, places=places)

    def test_the_set_of_all_places(self):
        for n in range(1, 9):
            every = tuple(range(n))
            self.assert_call(1, hold, table=rankings.uniform(n, 1), places=every)
            self.assert_call(every, closure, table=rankings.uniform(n, 1), places=every)
            self.assert_call(n == 1, is_free, table=rankings.uniform(n, 1), places=every)
            self.assert_call(True, is_closed, table=rankings.uniform(n, 1), places=every)
            self.assert_call(True, is_cover, table=rankings.uniform(n, 1), places=every)


class OfATable(Case):
    def test_all_of_them_in_order(self):
        for table in SMALL + GREAT:
            kinds = Kinds(table)
            self.assert_call(tuple(kinds.bases), bases, table=table)
            self.assert_call(tuple(kinds.rings), rings, table=table)
            self.assert_call(tuple(kinds.closed), closed_sets, table=table)
            self.assert_call(tuple(kinds.covers), covers, table=table)

    def test_rests_of_bases_are_bases_of_the_mirror(self):
        for table in SMALL + GREAT:
            n = rankings.PLACES[len(table)]
            rests = {brute.rest(n, places) for places in bases(table)}
            self.assertEqual(rests, set(bases(mirror_table(table))))

    def test_covers_are_unions_of_rings_of_the_mirror(self):
        for table in SMALL:
            found = {()}
            for ring in rings(mirror_table(table)):
                found |= {rankings.union(one, ring) for one in found}
            self.assertEqual(set(covers(table)), found)

    def test_what_they_say_of_books(self):
        for book, table in rankings.book_tables():
            listed = brute.span(book.q, book.n, book.rows)
            supports = {brute.support(word) for word in listed}
            for places in brute.sets(book.n):
                within = [word for word in listed if set(brute.support(word)) <= set(places)]
                self.assertEqual(hold(table, places), brute.dimension(book.q, within))
            some = supports - {()}
            least = {one for one in some if not any(set(other) < set(one) for other in some)}
            self.assertEqual(set(rings(mirror_table(table))), least)
            stacks = {()}
            for one in supports:
                stacks |= {rankings.union(one, other) for other in stacks}
            self.assertEqual(set(covers(table)), stacks)

    def test_wrong_tables(self):
        for call in OF_A_TABLE:
            for thing in NO_TABLES:
                self.assert_error(BadTable(thing), call, table=thing)


class Pieces(Case):
    def test_by_definition(self):
        for table in SMALL + GREAT:
            kinds = Kinds(table)
            found = pieces(table)
            self.assert_call(tuple(kinds.pieces()), pieces, table=table)
            self.assertEqual(sorted(place for piece in found for place in piece), list(kinds.every))
            unions = {rankings.union(*some) for some in product(*[((), piece) for piece in found])}
            self.assertEqual(unions, set(kinds.parting))
            self.assertEqual(pieces(mirror_table(table)), found)

    def test_ascending_not_in_order(self):
        table = tables_beside(rankings.uniform(3, 2), rankings.uniform(1, 1))
        self.assert_call(((0, 1, 2), (3,)), pieces, table=table)

    def test_single_places(self):
        for n in range(1, 9):
            alone = tuple((place,) for place in range(n))
            self.assert_call(alone, pieces, table=rankings.uniform(n, 0))
            self.assert_call(alone, pieces, table=rankings.uniform(n, n))


class Papers(Case):
    def test_all_papers_for_all_places(self):
        for table in SMALL:
            kinds = Kinds(table)
            for one in kinds.every:
                for other in kinds.every:
                    if one != other:
                        self.assert_papers(table, kinds, one, other, kinds.sets)

    def test_great_tables(self):
        for table in GREAT:
            kinds = Kinds(table)
            for at, (one, other) in enumerate(((0, 1), (2, 3), (4, 2), (kinds.n - 1, 0), (0, kinds.n - 1))):
                right = [places for _, places in kinds.right_papers(one, other)]
                self.assert_papers(table, kinds, one, other, kinds.sets[at::7] + right[at::9])

    def assert_papers(self, table, kinds, one, other, some):
        right = kinds.right_papers(one, other)
        self.assertEqual(len({kind for kind, _ in right}), 1)
        self.assertIn(judge_places(table, one, other), right)
        for places in some:
            for kind in ("ring", "parted"):
                paper = (kind, places)
                self.assertIs(places_holds(table, one, other, paper), paper in right, (table, paper))

    def test_papers_changed_in_one_place(self):
        for one, other, paper in ((0, 1, ("ring", (0, 1, 2))), (2, 3, ("parted", (0, 1, 2)))):
            kind, places = paper
            right = Kinds(BESIDE).right_papers(one, other)
            self.assert_call(True, places_holds, table=BESIDE, one=one, other=other, thing=paper)
            for thing in any_values():
                changed = [thing, (thing, places), (kind, thing), (kind, places, thing), (kind, places + (thing,))]
                changed += [(kind, places[:at] + (thing,) + places[at + 1 :]) for at in range(3)]
                for wrong in changed:
                    if not any(same(wrong, paper) for paper in right):
                        self.assert_call(False, places_holds, table=BESIDE, one=one, other=other, thing=wrong)
            for wrong in (list(paper), (kind,), (kind, list(places)), places, kind, (places, kind), paper + paper):
                self.assert_call(False, places_holds, table=BESIDE, one=one, other=other, thing=wrong)

    def test_wrong_tables(self):
        for thing in NO_TABLES:
            for one, other in ((0, 1), (0, 0), (9, thing)):
                self.assert_error(BadTable(thing), judge_places, table=thing, one=one, other=other)
                self.assert_error(BadTable(thing), places_holds, table=thing, one=one, other=other, thing=())

    def test_wrong_places(self):
        for n in (1, 2, 3, 8):
            table = rankings.uniform(n, 1)
            for thing in [n, -1, *others(lambda thing: is_int(thing) and 0 <= thing < n)]:
                for other in (0, n - 1, n, thing, None):
                    self.assert_two(BadPlace(thing), table, thing, other)
                self.assert_two(BadPlace(thing), table, 0, thing)
            for place in range(n):
                self.assert_two(BadPlace(place), table, place, place)

    def assert_two(self, error, table, one, other):
        self.assert_error(error, judge_places, table=table, one=one, other=other)
        self.assert_error(error, places_holds, table=table, one=one, other=other, thing=("ring", (0, 1)))


class Examples(Case):
    def test_worked_out_by_hand(self):
        self.assert_same(mirror_table(R), (0, 1, 1, 1, 1, 1, 1, 1))
        self.assert_same(rings(R), ((0, 1, 2),))
        self.assert_same(covers(R), ((), (0, 1), (0, 2), (1, 2), (0, 1, 2)))
        self.assert_same(closed_sets(R), ((), (0,), (1,), (2,), (0, 1, 2)))
        self.assert_same(pieces(BESIDE), ((0, 1, 2), (3, 4)))
        self.assert_same(judge_places(BESIDE, 0, 1), ("ring", (0, 1, 2)))
        self.assert_same(judge_places(BESIDE, 2, 3), ("parted", (0, 1, 2)))


if __name__ == "__main__":
    unittest.main()
