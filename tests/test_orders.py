"""mirrorbook/orders.py: [5.7] Best orders, and the smooth orders of [5.1]."""

import unittest
from itertools import combinations, permutations
from random import Random

from mirrorbook.errors import BadTable
from mirrorbook.orders import (
    best_load,
    best_order,
    judge_narrow,
    judge_short,
    narrow_holds,
    short_holds,
    smooth_order,
)
from tests import brute, counting, rankings
from tests.samples import GREAT, Case, any_values, changes, is_int, is_letters, is_places

P = (0, 1, 1, 1, 1, 2, 2, 2, 1, 2, 2, 2, 1, 2, 2, 2)
SIX = rankings.beside(rankings.uniform(2, 1), rankings.uniform(4, 2))
SMALL = rankings.small_tables()
MIDDLE = [table for table in counting.middle_tables() if len(table) < 128] + [SIX, rankings.uniform(6, 2)]
SEVEN = [rankings.fano(False), rankings.fano(True), counting.middle_tables()[-1], rankings.uniform(7, 3)]
NO_TABLES = rankings.no_tables()


def late_tables():
    """Tables of books whose best orders do not begin with the place 0."""
    found = []
    for n, rows in (
        (5, ("10210", "01111", "02020", "11021")),
        (6, ("212111", "100110")),
        (6, ("001100", "010001", "101010", "112000")),
        (7, ("1101200", "1100021", "1021121", "0101012")),
        (7, ("0102101", "0020001", "0000110", "1012110")),
    ):
        listed = brute.span(3, n, [tuple(map(int, row)) for row in rows])
        found.append(rankings.table_by_words(3, n, listed))
    return found


TABLES = [P] + SMALL + MIDDLE + SEVEN + late_tables()
M = range(-1, 41)


class Cuts:
    """The cuts of all sets of a table, the loads of all orders, and what papers are right by them."""

    def __init__(self, table):
        self.n = rankings.PLACES[len(table)]
        self.sets = brute.sets(self.n)
        rank = rankings.as_dict(table)
        self.cut = {one: rank[one] + rank[brute.rest(self.n, one)] - table[-1] for one in self.sets}
        least = [min(rank[one] for one in self.sets if len(one) == t) for t in range(self.n + 1)]
        self.bounds = [least[i] + least[self.n - i] - table[-1] for i in range(self.n + 1)]
        self.orders = {order: self.cuts_of(order) for order in permutations(range(self.n))}

    def fronts(self, order):
        return [tuple(sorted(order[:i])) for i in range(self.n + 1)]

    def cuts_of(self, order):
        return [self.cut[front] for front in self.fronts(order)]

    def load(self, order):
        return (max(self.orders[order]), sum(self.orders[order]))

    def best(self):
        return min(self.orders, key=lambda order: (self.load(order), order))

    def least_greatest(self):
        return min(max(found) for found in self.orders.values())

    def least_sum(self):
        return min(sum(found) for found in self.orders.values())

    def smooth(self):
        return min([order for order in self.orders if self.orders[order] == self.bounds], default=None)

    def is_order(self, thing):
        return is_letters(self.n, thing) and sorted(thing) == list(range(self.n))

    def is_narrow_paper(self, m, thing):
        if type(thing) is not tuple or len(thing) != 2 or type(thing[0]) is not str:
            return False
        if thing[0] == "order":
            return self.is_order(thing[1]) and max(self.orders[thing[1]]) <= m
        return thing[0] == "shut" and self.do_shut(m, thing[1])

    def do_shut(self, m, sets):
        if type(sets) is not tuple or not all(is_places(self.n, one) for one in sets):
            return False
        if [self.sets.index(one) for one in sets] != sorted({self.sets.index(one) for one in sets}):
            return False
        if any(self.cut[one] <= m for one in sets):
            return False
        return all(any(front in sets for front in self.fronts(order)) for order in self.orders)

    def is_short_paper(self, m, thing):
        if type(thing) is not tuple or len(thing) != 2 or type(thing[0]) is not str:
            return False
        if thing[0] == "order":
            return self.is_order(thing[1]) and sum(self.orders[thing[1]]) <= m
        return thing[0] == "long" and self.are_long(m, thing[1])

    def are_long(self, m, numbers):
        if type(numbers) is not tuple or len(numbers) != len(self.sets) or not all(map(is_int, numbers)):
            return False
        at = {one: numbers[brute.number_of(one)] for one in self.sets}
        for one in self.sets:
            for e in brute.rest(self.n, one):
                more = rankings.union(one, (e,))
                if at[more] > at[one] + self.cut[more]:
                    return False
        return at[()] == 0 and at[tuple(range(self.n))] > m


CUTS = {table: Cuts(table) for table in TABLES}


class Orders(Case):
    def test_best_orders_of_all(self):
        for table, found in CUTS.items():
            wanted = found.best()
            self.assert_call(wanted, best_order, table=table)
            self.assert_call(found.load(wanted), best_load, table=table)

    def test_the_greatest_cut_comes_first(self):
        """An order ahead of the best one has the same sum of its cuts, but a greater one among them."""
        rows = ((3, 3, 0, 2, 1, 2, 2, 0), (1, 3, 1, 1, 2, 2, 1, 0), (0, 1, 2, 0, 0, 0, 0, 3))
        table = rankings.table_by_words(4, 8, brute.span(4, 8, rows))
        cuts = Cuts(table)
        self.assertLess((0, 4, 1, 2, 5, 7, 3, 6), cuts.best())
        self.assertEqual(cuts.load((0, 4, 1, 2, 5, 7, 3, 6)), (3, 11))
        self.assert_call(cuts.best(), best_order, table=table)
        self.assert_call((2, 11), best_load, table=table)

    def test_random_books(self):
        random = Random(130)
        found = 0
        for _ in range(60):
            q, n = random.choice(((2, 6), (3, 6), (2, 5)))
            rows = [tuple(random.choice((0, 0, 1, q - 1)) for _ in range(n)) for _ in range(3)]
            table = rankings.table_by_words(q, n, brute.span(q, n, rows))
            cuts = Cuts(table)
            self.assertEqual(best_order(table), cuts.best())
            self.assertEqual(best_load(table), cuts.load(cuts.best()))
            self.assertEqual(smooth_order(table), cuts.smooth())
            found += best_order(table) != tuple(range(n))
        self.assertGreater(found, 10)

    def test_best_orders_that_begin_late(self):
        for table in late_tables():
            self.assertGreater(CUTS[table].best()[0], 0)
            self.assert_call(CUTS[table].best(), best_order, table=table)

    def test_smooth_orders(self):
        kinds = set()
        for table, found in CUTS.items():
            wanted = found.smooth()
            self.assert_call(wanted, smooth_order, table=table)
            kinds.add((wanted is None, min(found.bounds) < 0))
        self.assertLessEqual({(True, True), (False, False)}, kinds)

    def test_eight_places(self):
        """More places than the limit: the program raises no error."""
        self.assert_call(tuple(range(8)), best_order, table=rankings.uniform(8, 3))
        self.assert_call((3, 15), best_load, table=rankings.uniform(8, 3))

    def test_wrong_tables(self):
        for thing in NO_TABLES:
            for call in (best_order, best_load, smooth_order):
                self.assert_error(BadTable(thing), call, table=thing)
            for call in (judge_narrow, judge_short):
                self.assert_error(BadTable(thing), call, table=thing, m=1)
            for call in (narrow_holds, short_holds):
                self.assert_error(BadTable(thing), call, table=thing, m=1, thing=("order", (0,)))
                self.assert_error(BadTable(thing), call, table=thing, m=1, thing=thing)


class NarrowPapers(Case):
    def test_just_one_kind(self):
        for table, found in CUTS.items():
            least = found.least_greatest()
            for m in M if found.n < 5 else (-1, 0, 1, 2, 3, 4, 40):
                paper = judge_narrow(table, m)
                self.assert_same(paper[0], "order" if least <= m else "shut")
                if found.n < 7 or m < 4:
                    self.assertTrue(found.is_narrow_paper(m, paper), (table, m, paper))
                self.assertIs(narrow_holds(table, m, paper), True)

    def test_by_position_and_by_name(self):
        for table in (P, SEVEN[0]):
            for m in (-1, 0, 2, 3, 40):
                paper = judge_narrow(table, m)
                self.assert_call(paper, judge_narrow, table=table, m=m)
                self.assert_call(True, narrow_holds, table=table, m=m, thing=paper)
                self.assert_call(False, narrow_holds, table=table, m=m, thing=paper[::-1])

    def test_all_orders(self):
        for table in SMALL[::2] + [SIX]:
            found = CUTS[table]
            for m in (-1, 0, 1, 2):
                for order in list(found.orders)[:: 1 + found.n // 5 * 7]:
                    right = max(found.orders[order]) <= m
                    self.assertIs(narrow_holds(table, m, ("order", order)), right)

    def test_all_tuples_of_sets_of_three_places(self):
        every = [some for many in range(9) for some in combinations(brute.sets(3), many)]
        for table in (rankings.uniform(3, 1), rankings.uniform(3, 2), rankings.uniform(3, 3)):
            for m in (-1, 0, 1):
                for sets in every:
                    right = CUTS[table].do_shut(m, sets)
                    self.assertIs(narrow_holds(table, m, ("shut", sets)), right, (table, m, sets))

    def test_more_sets_than_needed_and_fewer(self):
        random = Random(131)
        for table in (P, rankings.uniform(4, 2), SIX, MIDDLE[0]):
            found = CUTS[table]
            kinds = set()
            for m in (-1, 0, 1):
                wide = [one for one in found.sets if found.cut[one] > m]
                for share in (2, 4, 10, 30, 30, 30):
                    sets = tuple(one for one in wide if random.randrange(share))
                    right = found.do_shut(m, sets)
                    self.assertIs(narrow_holds(table, m, ("shut", sets)), right)
                    kinds.add(right)
            self.assertEqual(kinds, {True, False})

    def test_one_layer_of_sets_is_enough(self):
        for n, k in ((4, 2), (5, 2), (7, 3)):
            for size in range(k, n - k + 1):
                sets = tuple(combinations(range(n), size))
                self.assert_call(True, narrow_holds, table=rankings.uniform(n, k), m=k - 1, thing=("shut", sets))
                for at in (0, len(sets) // 2, len(sets) - 1):
                    less = sets[:at] + sets[at + 1 :]
                    self.assert_call(False, narrow_holds, table=rankings.uniform(n, k), m=k - 1, thing=("shut", less))

    def test_no_place_and_all_places(self):
        for n in (1, 4, 7):
            table = rankings.uniform(n, 1)
            for places in ((), tuple(range(n))):
                self.assert_call(True, narrow_holds, table=table, m=-1, thing=("shut", (places,)))
                self.assert_call(False, narrow_holds, table=table, m=0, thing=("shut", (places,)))
            self.assert_call(False, narrow_holds, table=table, m=-1, thing=("shut", ()))

    def test_papers_changed_in_one_place(self):
        for table, m, paper in (
            (P, 0, ("shut", ((0,), (1,), (2,), (3,)))),
            (P, 1, ("order", (2, 3, 1, 0))),
            (rankings.uniform(2, 1), 0, ("shut", ((0,), (1,)))),
            (rankings.uniform(3, 1), -1, ("shut", ((), (0, 1)))),
        ):
            self.assertTrue(narrow_holds(table, m, paper))
            for thing in changes(paper):
                right = CUTS[table].is_narrow_paper(m, thing)
                self.assertIs(narrow_holds(table, m, thing), right, thing)

    def test_other_values(self):
        for table in (SEVEN[0], SEVEN[3]):
            for thing in any_values():
                for paper in (thing, ("order", thing), ("shut", thing), ("shut", (thing,)), ("order", thing, thing)):
                    self.assert_call(False, narrow_holds, table=table, m=1, thing=paper)


class ShortPapers(Case):
    def test_just_one_kind(self):
        for table, found in CUTS.items():
            least = found.least_sum()
            for m in M if found.n < 5 else (-1, 0, 3, least - 1, least, least + 1, 40):
                paper = judge_short(table, m)
                self.assert_same(paper[0], "order" if least <= m else "long")
                self.assertTrue(found.is_short_paper(m, paper), (table, m, paper))
                self.assertIs(short_holds(table, m, paper), True)

    def test_by_position_and_by_name(self):
        for table in (P, SEVEN[0]):
            for m in (-1, 0, 2, 11, 40):
                paper = judge_short(table, m)
                self.assert_call(paper, judge_short, table=table, m=m)
                self.assert_call(True, short_holds, table=table, m=m, thing=paper)
                self.assert_call(False, short_holds, table=table, m=m, thing=paper[::-1])

    def test_all_orders(self):
        for table in SMALL[::2] + [SIX]:
            found = CUTS[table]
            for m in (-1, 0, 2, 4, 5):
                for order in list(found.orders)[:: 1 + found.n // 5 * 7]:
                    right = sum(found.orders[order]) <= m
                    self.assertIs(short_holds(table, m, ("order", order)), right)

    def test_smaller_numbers_and_greater_ones(self):
        random = Random(132)
        kinds = set()
        for table in (P, rankings.uniform(3, 2), SIX, SEVEN[3]):
            found = CUTS[table]
            for m in (-1, 0, found.least_sum() - 1, found.least_sum()):
                for share in (1, 5, 20, 60, 60):
                    numbers = self.some_numbers(random, found, share)
                    for at in (0, 1, 3, len(numbers) - 1):
                        for step in (0, 1, -1, GREAT):
                            paper = ("long", numbers[:at] + (numbers[at] + step,) + numbers[at + 1 :])
                            right = found.is_short_paper(m, paper)
                            self.assertIs(short_holds(table, m, paper), right)
                            kinds.add((found.n, right, share > 1, step))
        self.assertLessEqual({(n, True, True, 0) for n in (3, 4, 6, 7)}, kinds)
        self.assertLessEqual({(n, False, True, 1) for n in (3, 4, 6, 7)}, kinds)

    def some_numbers(self, random, found, share):
        """Numbers that grow by no more than the cuts, with one in about so many sets by less than they could."""
        numbers = [0] * len(found.sets)
        for one in found.sets[1:]:
            ahead = [tuple(place for place in one if place != e) for e in one]
            least = min(numbers[brute.number_of(less)] for less in ahead)
            numbers[brute.number_of(one)] = least + found.cut[one] - (random.randrange(share) == 0)
        return tuple(numbers)

    def test_numbers_that_this_package_did_not_make(self):
        """The least sums of the cuts over the orders of the places of each set."""
        for table in (P, SIX, SEVEN[1]):
            found = CUTS[table]
            least = {(): 0}
            for one in found.sets[1:]:
                ahead = [tuple(place for place in one if place != e) for e in one]
                least[one] = found.cut[one] + min(least[less] for less in ahead)
            numbers = [0] * len(table)
            for one, number in least.items():
                numbers[brute.number_of(one)] = number
            self.assertEqual(numbers[-1], found.least_sum())
            for m in M:
                self.assertIs(short_holds(table, m, ("long", tuple(numbers))), m < found.least_sum())

    def test_papers_changed_in_one_place(self):
        for table, m, paper in (
            (P, 1, ("long", (0, 1, 1, 1, 1, 3, 3, 2, 1, 3, 3, 2, 1, 2, 2, 2))),
            (rankings.uniform(2, 1), 0, ("long", (0, 1, 1, 1))),
            (rankings.uniform(2, 1), -1, ("long", (0, 1, 0, 0))),
            (P, 2, ("order", (2, 3, 1, 0))),
        ):
            self.assertTrue(short_holds(table, m, paper))
            for thing in changes(paper):
                right = CUTS[table].is_short_paper(m, thing)
                self.assertIs(short_holds(table, m, thing), right, thing)

    def test_other_values(self):
        for table in (SEVEN[0], SEVEN[3]):
            for thing in any_values():
                for paper in (thing, ("order", thing), ("long", thing), ("long", (thing,) * 128), ("long", (), thing)):
                    self.assert_call(False, short_holds, table=table, m=1, thing=paper)


class Examples(Case):
    def test_worked_out_by_hand(self):
        self.assert_same(smooth_order(P), (0, 1, 2, 3))
        self.assert_same(best_order(P), (0, 1, 2, 3))
        self.assert_same(best_load(P), (1, 2))
        self.assert_call(True, narrow_holds, table=P, m=0, thing=("shut", ((0,), (1,), (2,), (3,))))
        numbers = (0, 1, 1, 1, 1, 3, 3, 2, 1, 3, 3, 2, 1, 2, 2, 2)
        self.assert_call(True, short_holds, table=P, m=1, thing=("long", numbers))


if __name__ == "__main__":
    unittest.main()
