"""mirrorbook/ladderpapers.py: [4.4] Reaching, [4.6] Chains."""

import unittest
from itertools import combinations, product
from random import Random

from mirrorbook.errors import BadNumber, BadTable
from mirrorbook.ladderpapers import chain_holds, judge_chain, judge_reach, reach_holds
from tests import brute, counting, rankings
from tests.samples import Case, any_values, changes, is_int, is_places, others

P = (0, 1, 1, 1, 1, 2, 2, 2, 1, 2, 2, 2, 1, 2, 2, 2)
U = rankings.uniform(4, 2)


# Tables without a chain: of the ladders (2, 4, 6), (2, 4, 5, 7), (2, 3, 5, 7, 8) and (2, 4, 5, 6, 8).
SIX = rankings.beside(rankings.uniform(2, 1), U)
SEVEN = rankings.beside(rankings.uniform(2, 1), rankings.uniform(5, 3))
CHAINLESS = [
    SIX,
    SEVEN,
    rankings.beside(rankings.uniform(3, 2), rankings.uniform(5, 3)),
    rankings.beside(rankings.uniform(6, 4), rankings.uniform(2, 1)),
]
SMALL = rankings.small_tables()
GREAT_TABLES = counting.middle_tables() + rankings.great_tables() + counting.eight_tables() + CHAINLESS
NO_TABLES = rankings.no_tables()


class Ranks:
    """The holds and the least sets of a table, looked for among all sets, and what papers are right by them."""

    def __init__(self, table):
        self.n = rankings.PLACES[len(table)]
        self.k = table[-1]
        self.sets = brute.sets(self.n)
        self.rank = rankings.as_dict(table)
        self.hold = {one: self.k - self.rank[brute.rest(self.n, one)] for one in self.sets}
        self.least = {j: self.least_sets(j) for j in range(1, self.k + 1)}

    def least_sets(self, j):
        step = min(len(one) for one in self.sets if self.hold[one] >= j)
        return [one for one in self.sets if len(one) == step and self.hold[one] >= j]

    def does_reach(self, j, size):
        return any(len(one) <= size and self.hold[one] >= j for one in self.sets)

    def are_sets(self, thing):
        if type(thing) is not tuple or not all(is_places(self.n, one) for one in thing):
            return False
        return [self.sets.index(one) for one in thing] == sorted({self.sets.index(one) for one in thing})

    def is_reach_paper(self, j, size, thing):
        if type(thing) is not tuple or len(thing) != 2 or type(thing[0]) is not str:
            return False
        kind, proof = thing
        if kind == "reached":
            return is_places(self.n, proof) and len(proof) <= size and self.hold[proof] >= j
        if kind != "barred" or not self.are_sets(proof):
            return False
        if any(not len(one) == self.rank[one] == self.k - j + 1 for one in proof):
            return False
        return all(any(not set(one) & set(some) for one in proof) for some in combinations(range(self.n), size))

    def is_chain_paper(self, thing):
        if type(thing) is not tuple or len(thing) != 2 or type(thing[0]) is not str or type(thing[1]) is not tuple:
            return False
        kind, proof = thing
        if kind == "chain":
            fit = len(proof) == self.k and all(is_places(self.n, one) for one in proof)
            return fit and all(one in self.least[j] for j, one in enumerate(proof, 1)) and self.is_rising(proof)
        return kind == "broken" and self.are_rows(proof) and self.is_broken(proof)

    def is_rising(self, sets):
        return all(set(one) <= set(other) for one, other in zip(sets, sets[1:]))

    def are_rows(self, rows):
        return 1 <= len(rows) <= self.k and all(self.are_sets(row) for row in rows)

    def is_broken(self, rows):
        if rows[-1] != () or not set(self.least[1]) <= set(rows[0]):
            return False
        for i in range(1, len(rows)):
            for one in self.least[i + 1]:
                if one not in rows[i] and any(set(less) <= set(one) for less in rows[i - 1]):
                    return False
        return True

    def has_chain(self):
        """Whether one of all tuples of least sets is a chain."""
        return any(self.is_rising(sets) for sets in product(*self.least.values()))


class Reaching(Case):
    def test_just_one_kind(self):
        kinds = set()
        for table in SMALL + GREAT_TABLES:
            ranks = Ranks(table)
            for j in range(1, ranks.k + 1):
                for size in range(ranks.n + 1):
                    paper = judge_reach(table, j, size)
                    self.assertTrue(ranks.is_reach_paper(j, size, paper), (table, j, size, paper))
                    self.assertEqual(paper[0], "reached" if ranks.does_reach(j, size) else "barred")
                    self.assertIs(reach_holds(table, j, size, paper), True)
                    kinds.add((ranks.n, paper[0]))
        self.assertEqual(kinds, {(n, kind) for n in range(1, 9) for kind in ("reached", "barred")})

    def test_by_position_and_by_name(self):
        for table, j, size in ((P, 1, 1), (P, 1, 2), (rankings.bookless(), 2, 5), (rankings.bookless(), 2, 6)):
            paper = judge_reach(table, j, size)
            self.assert_call(paper, judge_reach, table=table, j=j, size=size)
            self.assert_call(True, reach_holds, table=table, j=j, size=size, thing=paper)
            self.assert_call(False, reach_holds, table=table, j=j, size=size, thing=(paper[1], paper[0]))

    def test_all_sets_that_could_be_reached(self):
        for table in SMALL + GREAT_TABLES[::4]:
            ranks = Ranks(table)
            for j in range(1, ranks.k + 1):
                for size in range(0, ranks.n + 1, 1 + ranks.n // 4):
                    for places in ranks.sets[:: 1 + len(ranks.sets) // 30]:
                        right = len(places) <= size and ranks.hold[places] >= j
                        self.assertIs(reach_holds(table, j, size, ("reached", places)), right)

    def test_all_sets_that_could_bar_three_places(self):
        for n in (1, 2, 3):
            every = [some for many in range(2**n + 1) for some in combinations(brute.sets(n), many)]
            for k in range(1, n + 1):
                table = rankings.uniform(n, k)
                ranks = Ranks(table)
                for j, size in product(range(1, k + 1), range(n + 1)):
                    for sets in every:
                        right = ranks.is_reach_paper(j, size, ("barred", sets))
                        self.assertIs(reach_holds(table, j, size, ("barred", sets)), right)

    def test_more_sets_than_needed_and_fewer(self):
        random = Random(110)
        for table in (P, U, SIX, rankings.uniform(5, 3), rankings.fano(True), rankings.bookless()):
            ranks = Ranks(table)
            for j, size in product(range(1, ranks.k + 1), range(ranks.n)):
                many = ranks.k - j + 1
                free = [one for one in ranks.sets if len(one) == many == ranks.rank[one]]
                for _ in range(4):
                    sets = tuple(one for one in free if random.randrange(4))
                    right = ranks.is_reach_paper(j, size, ("barred", sets))
                    self.assertIs(reach_holds(table, j, size, ("barred", sets)), right)

    def test_sets_of_another_size_or_rank(self):
        self.assert_call(True, reach_holds, table=P, j=1, size=1, thing=("barred", ((0, 2), (1, 3))))
        for sets in (((0, 1), (2, 3)), ((0,), (1,)), ((0,), (1, 3)), ((0, 1), (0, 2), (1, 3)), ((0, 2), (0, 1, 3))):
            self.assert_call(False, reach_holds, table=P, j=1, size=1, thing=("barred", sets))
        self.assert_call(False, reach_holds, table=P, j=1, size=1, thing=("barred", ((1, 3), (0, 2))))
        self.assert_call(True, reach_holds, table=P, j=2, size=3, thing=("barred", ((0,), (1,), (2,), (3,))))
        self.assert_call(False, reach_holds, table=P, j=2, size=3, thing=("barred", ((0,), (1,), (2,))))

    def test_fewer_places_than_the_size(self):
        for size in (2, 3, 4):
            self.assert_call(True, reach_holds, table=P, j=1, size=size, thing=("reached", (2, 3)))
            self.assert_call(size > 2, reach_holds, table=P, j=1, size=size, thing=("reached", (0, 2, 3)))
            self.assert_call(size > 3, reach_holds, table=P, j=2, size=size, thing=("reached", (0, 1, 2, 3)))

    def test_papers_changed_in_one_place(self):
        for table, j, size, paper in (
            (P, 1, 1, ("barred", ((0, 2), (1, 3)))),
            (P, 2, 1, ("barred", ((0,), (1,), (3,)))),
            (P, 1, 2, ("reached", (2, 3))),
            (U, 1, 3, ("reached", (0, 1, 3))),
            (U, 2, 0, ("barred", ((1,),))),
        ):
            ranks = Ranks(table)
            self.assertTrue(reach_holds(table, j, size, paper))
            self.assert_like(ranks, table, j, size, changes(paper))

    def test_great_papers_changed_in_one_place(self):
        table = rankings.bookless()
        ranks = Ranks(table)
        for j, size in ((1, 3), (2, 6)):
            kind, proof = judge_reach(table, j, size)
            some = [proof[::-1], proof[1:], proof[:-1], proof + proof[:1], list(proof), proof[:1] + proof, proof[:40]]
            some += [proof[:at] + (places,) + proof[at + 1 :] for at in (0, 1, 5) for places in ((0,), (0, 1, 2, 3))]
            self.assert_like(ranks, table, j, size, [(kind, thing) for thing in some])

    def assert_like(self, ranks, table, j, size, things):
        for thing in things:
            right = ranks.is_reach_paper(j, size, thing)
            self.assertIs(reach_holds(table, j, size, thing), right, thing)

    def test_other_values(self):
        table = counting.eight_tables()[0]
        for thing in any_values():
            for paper in (thing, ("reached", thing), ("barred", thing), ("barred", (thing,)), ("reached", (0,), thing)):
                self.assert_call(False, reach_holds, table=table, j=1, size=3, thing=paper)

    def test_wrong_arguments(self):
        for n, k in ((1, 1), (4, 2), (8, 4)):
            numbers = [0, k + 1, *others(lambda thing: is_int(thing) and 1 <= thing <= k)]
            sizes = [n + 1, -1, *others(lambda thing: is_int(thing) and 0 <= thing <= n)]
            right = {"table": rankings.uniform(n, k), "j": 1, "size": n}
            checks = (("table", BadTable, NO_TABLES), ("j", BadNumber, numbers), ("size", BadNumber, sizes))
            self.assert_errors(judge_reach, right, checks)
            self.assert_errors(reach_holds, {**right, "thing": ("reached", ())}, checks)

    def test_each_j_if_there_are_no_words(self):
        for n in (1, 4, 8):
            for j in (0, 1, n, *any_values()):
                given = {"table": rankings.uniform(n, 0), "j": j, "size": 0}
                self.assert_error(BadNumber(j), judge_reach, **given)
                self.assert_error(BadNumber(j), reach_holds, **given, thing=("reached", ()))


class Chains(Case):
    def test_just_one_kind(self):
        kinds = set()
        for table in SMALL + GREAT_TABLES:
            ranks = Ranks(table)
            paper = judge_chain(table)
            self.assert_call(paper, judge_chain, table=table)
            self.assertTrue(ranks.is_chain_paper(paper), (table, paper))
            self.assert_call(True, chain_holds, table=table, thing=paper)
            if ranks.n < 7 or paper[0] == "broken":
                self.assertEqual(paper[0] == "chain", ranks.has_chain())
            kinds.add(paper[0])
        self.assertEqual(kinds, {"chain", "broken"})

    def test_tables_without_a_chain(self):
        for table in CHAINLESS:
            self.assertEqual(judge_chain(table)[0], "broken")
        self.assertEqual(len(judge_chain(CHAINLESS[2])[1]), 3)

    def test_all_tuples_of_sets(self):
        for table in (P, U, rankings.uniform(3, 1), rankings.uniform(3, 2), rankings.uniform(2, 2)):
            ranks = Ranks(table)
            for many in range(ranks.k + 2):
                for sets in product(ranks.sets, repeat=min(many, 2)):
                    sets = sets + (ranks.sets[-1],) * (many - len(sets))
                    right = ranks.is_chain_paper(("chain", sets))
                    self.assertIs(chain_holds(table, ("chain", sets)), right)

    def test_all_tuples_of_least_sets(self):
        longer = [rankings.beside(P, rankings.uniform(n, k)) for n, k in ((1, 1), (3, 2))]
        for table in [SIX, rankings.uniform(5, 3), *longer]:
            ranks = Ranks(table)
            found = set()
            for sets in product(*ranks.least.values()):
                right = ranks.is_rising(sets)
                self.assertIs(chain_holds(table, ("chain", sets)), right)
                found.add(right)
            self.assertEqual(True in found, ranks.has_chain())

    def test_all_rows_of_two_places(self):
        every = [some for many in range(5) for some in combinations(brute.sets(2), many)]
        for k in range(3):
            table = rankings.uniform(2, k)
            ranks = Ranks(table)
            for many in range(4):
                for rows in product(every if many < 3 else every[::5] + [()], repeat=many):
                    right = ranks.is_chain_paper(("broken", rows))
                    self.assertIs(chain_holds(table, ("broken", rows)), right)

    def test_rows_with_other_sets(self):
        random = Random(111)
        for table in CHAINLESS:
            ranks = Ranks(table)
            found = set()
            for _ in range(120):
                rows = self.some_rows(random, ranks)
                right = ranks.is_chain_paper(("broken", rows))
                self.assertIs(chain_holds(table, ("broken", rows)), right, rows)
                found.add(right)
            self.assertEqual(found, {True, False})

    def some_rows(self, random, ranks):
        """Rows of the sets that they need, mostly, of some other sets, and of empty rows behind."""
        rows, row = [], ranks.least[1]
        for j in range(2, ranks.k + 2):
            row = {one for one in row if random.randrange(20)}
            row |= {one for one in random.sample(ranks.sets, 2) if random.randrange(4) == 0}
            rows.append(tuple(one for one in ranks.sets if one in row))
            if not row or j > ranks.k:
                break
            row = [one for one in ranks.least[j] if any(set(less) <= set(one) for less in row)]
        return tuple(rows) + ((),) * random.randrange(3)

    def test_right_papers_that_this_package_did_not_make(self):
        least = (0, 1)
        for table, rows in (
            (SIX, ((least,), ())),
            (SIX, ((least,), (), ())),
            (SIX, (((0,), least), ())),
            (SIX, ((least, (0, 1, 2, 3, 4, 5)), ())),
            (SIX, ((least, (0, 2, 4)), (), ())),
            (SEVEN, ((least,), ((0,),), ())),
            (SEVEN, ((least,), ((0,),), (), ())),
            (SEVEN, ((least,), ((0,), (0, 1, 2, 3, 4, 5, 6)), (), ())),
        ):
            self.assertTrue(Ranks(table).is_chain_paper(("broken", rows)), rows)
            self.assert_call(True, chain_holds, table=table, thing=("broken", rows))

    def test_wrong_rows(self):
        least = (0, 1)
        for table, rows in (
            (SIX, ((least,),)),
            (SIX, ((),)),
            (SIX, ((), ())),
            (SIX, ()),
            (SIX, (((), least), ())),
            (SIX, ((least, (2,)), ())),
            (SIX, (((2,), least), (), ())),
            (SIX, ((least,), (), (), ())),
            (SIX, ((least,), ((2,),), ())),
            (SIX, ((least, least), ())),
            (SIX, (((0, 2, 4), least), ())),
            (SEVEN, ((least,), ((2,),), (), ())),
            (SEVEN, ((least,), (), ((0, 1, 2),), ())),
            (SEVEN, ((least,), (), (), (), ())),
            (P, ((least, (2, 3)), ())),
            (P, ((least, (2, 3)), ((0, 1, 2, 3),))),
        ):
            self.assertFalse(Ranks(table).is_chain_paper(("broken", rows)), rows)
            self.assert_call(False, chain_holds, table=table, thing=("broken", rows))

    def test_papers_changed_in_one_place(self):
        for table, paper in (
            (P, ("chain", ((0, 1), (0, 1, 2, 3)))),
            (U, ("chain", ((1, 2, 3), (0, 1, 2, 3)))),
            (rankings.uniform(3, 0), ("chain", ())),
            (SIX, ("broken", (((0, 1),), (), ()))),
            (SIX, ("broken", (((0, 1), (0, 1, 2)), ()))),
        ):
            ranks = Ranks(table)
            self.assertTrue(chain_holds(table, paper))
            for thing in changes(paper):
                self.assertIs(chain_holds(table, thing), ranks.is_chain_paper(thing), thing)

    def test_no_words(self):
        for n in range(1, 9):
            table = rankings.uniform(n, 0)
            self.assert_call(("chain", ()), judge_chain, table=table)
            self.assert_call(True, chain_holds, table=table, thing=("chain", ()))
            for thing in [("chain", ((),)), ("broken", ()), ("broken", ((),)), ("broken", ((), ())), *any_values()]:
                self.assert_call(False, chain_holds, table=table, thing=thing)

    def test_other_values(self):
        for table in (counting.eight_tables()[0], CHAINLESS[2]):
            for thing in any_values():
                for paper in (thing, ("chain", thing), ("broken", thing), ("broken", (thing, ())), ("chain", (thing,))):
                    self.assert_call(False, chain_holds, table=table, thing=paper)

    def test_wrong_tables(self):
        for thing in NO_TABLES:
            self.assert_error(BadTable(thing), judge_chain, table=thing)
            self.assert_error(BadTable(thing), chain_holds, table=thing, thing=("chain", ()))
            self.assert_error(BadTable(thing), chain_holds, table=thing, thing=thing)


class Examples(Case):
    def test_worked_out_by_hand(self):
        self.assert_call(True, reach_holds, table=P, j=1, size=1, thing=("barred", ((0, 2), (1, 3))))
        self.assert_call(True, reach_holds, table=P, j=1, size=2, thing=("reached", (2, 3)))
        self.assert_call(True, chain_holds, table=P, thing=("chain", ((0, 1), (0, 1, 2, 3))))
        self.assert_call(True, chain_holds, table=SIX, thing=("broken", (((0, 1),), ())))


if __name__ == "__main__":
    unittest.main()
