"""mirrorbook/counts.py: [3.8] Balance, [3.9] Told balance."""

import unittest
from itertools import combinations, product

from mirrorbook.counts import balance, balance_holds, judge_balance, told_balance
from mirrorbook.errors import BadNumber, BadTable
from tests import brute, counting, rankings
from tests.samples import Case, any_values, changes, is_int, is_places, others

R = (0, 1, 1, 2, 1, 2, 2, 2)
SMALL = rankings.small_tables()
MIDDLE = counting.middle_tables()
GREAT_TABLES = rankings.great_tables() + counting.eight_tables()
NO_TABLES = rankings.no_tables()


def is_right(counts, w, t, thing):
    """Whether any value is a right paper, by the definition."""
    if type(thing) is not tuple or not thing:
        return False
    sets = list(combinations(range(counts.n), t))
    if len(thing) == 2 and type(thing[0]) is str and thing[0] == "balanced":
        integers = type(thing[1]) is tuple and all(map(is_int, thing[1]))
        return integers and all(counts.weight_over(w, places) == thing[1] for places in sets)
    if len(thing) == 3 and type(thing[0]) is str and thing[0] == "unbalanced":
        if all(is_places(counts.n, places) and len(places) == t for places in thing[1:]):
            return counts.weight_over(w, thing[1]) != counts.weight_over(w, thing[2])
    return False


def first_paper(counts, w, t):
    """The paper of the function, by its description."""
    sets = list(combinations(range(counts.n), t))
    over = [counts.weight_over(w, places) for places in sets]
    for places, count in zip(sets, over):
        if count != over[0]:
            return ("unbalanced", sets[0], places)
    return ("balanced", over[0])


def told_by(table, mirrored):
    """All t for which the condition of [3.9] holds for a table, with its mirror."""
    one, other = counting.SetCounts(table).weights(), counting.SetCounts(mirrored).weights()
    n = len(one) - 1
    d = min([w for w in range(1, n + 1) if one[w]], default=n + 1)
    found = []
    for t in range(n + 1):
        if t <= d - 1 and sum(1 for w in range(1, n - t + 1) if other[w]) <= d - t:
            found.append(t)
    return found


class Balance(Case):
    def test_all_sets_of_each_size(self):
        for table in SMALL + MIDDLE + GREAT_TABLES:
            counts = counting.SetCounts(table)
            for w in range(0, counts.n + 1, 1 + (counts.n > 6)):
                wanted, for_lesser_too = counts.balance(w)
                self.assertTrue(for_lesser_too)
                self.assertEqual(balance(table, w), wanted)

    def test_count_zero_weight_0_and_all_places(self):
        for table in SMALL + GREAT_TABLES:
            found = counting.SetCounts(table).weights()
            n = len(found) - 1
            for w in {0, n, *[w for w in range(n + 1) if found[w] == ()]}:
                self.assertEqual(balance(table, w), w)

    def test_by_position_and_by_name(self):
        for table, w, wanted in (
            (rankings.uniform(8, 4), 6, 6),
            (counting.eight_tables()[0], 4, counting.SetCounts(counting.eight_tables()[0]).balance(4)[0]),
            (rankings.bookless(), 4, 0),
            (R, 2, 2),
            (R, 0, 0),
        ):
            self.assert_call(wanted, balance, table=table, weight=w)

    def test_between_none_and_all(self):
        """The book of the Fano plane and its like: balanced for 2 and 3, not for more."""
        rows = ((1, 0, 0, 0, 1, 1, 0, 1), (0, 1, 0, 0, 1, 0, 1, 1), (0, 0, 1, 0, 0, 1, 1, 1), (0, 0, 0, 1, 1, 1, 1, 0))
        eight = rankings.table_by_words(2, 8, brute.span(2, 8, rows))
        self.assert_call(3, balance, table=eight, weight=4)
        self.assert_call(2, balance, table=rankings.fano(False), weight=4)


class Told(Case):
    def test_the_condition(self):
        for table in SMALL + MIDDLE + GREAT_TABLES:
            mirrored = rankings.mirrored(table)
            wanted = max(told_by(table, mirrored) + told_by(mirrored, table) + [0])
            self.assert_call(wanted, told_balance, table=table)
            self.assert_call(wanted, told_balance, table=mirrored)

    def test_weights_are_balanced_as_told(self):
        for table in SMALL + MIDDLE[::2] + GREAT_TABLES[:3]:
            t = told_balance(table)
            for one in (table, rankings.mirrored(table)):
                counts = counting.SetCounts(one)
                for w in range(counts.n + 1):
                    self.assertTrue(counts.is_balanced(w, min(t, w)))

    def test_no_words_and_all_words(self):
        for n in range(1, 9):
            self.assert_call(n, told_balance, table=rankings.uniform(n, 0))
            self.assert_call(n, told_balance, table=rankings.uniform(n, n))

    def test_by_the_table_alone_and_by_the_mirror_alone(self):
        sides = set()
        for table in SMALL + MIDDLE:
            mirrored = rankings.mirrored(table)
            own, other = max(told_by(table, mirrored), default=-1), max(told_by(mirrored, table), default=-1)
            sides.add((own > other) - (own < other))
            sides.add("none" if own == other == -1 else "some")
        self.assertEqual(sides, {-1, 0, 1, "none", "some"})


class Papers(Case):
    def test_the_paper_of_each_weight_and_t(self):
        kinds = set()
        for table in SMALL + MIDDLE[:6] + GREAT_TABLES[::5]:
            counts = counting.SetCounts(table)
            for w in range(counts.n + 1):
                for t in range(0, w + 1, 1 + (counts.n > 6)):
                    wanted = first_paper(counts, w, t)
                    self.assert_same(judge_balance(table, w, t), wanted)
                    self.assertTrue(is_right(counts, w, t, wanted))
                    self.assertIs(balance_holds(table, w, t, wanted), True)
                    kinds.add(wanted[0])
        self.assertEqual(kinds, {"balanced", "unbalanced"})

    def test_any_two_sets(self):
        for table in SMALL[::3] + MIDDLE[4:6]:
            counts = counting.SetCounts(table)
            for w in range(counts.n + 1):
                for t in range(min(w, 3) + 1):
                    self.assert_two_sets(table, counts, w, t)

    def assert_two_sets(self, table, counts, w, t):
        sets = list(combinations(range(counts.n), t))
        over = {places: counts.weight_over(w, places) for places in sets}
        for one, other in list(product(sets, repeat=2))[:: 1 + len(sets) // 4]:
            paper = ("unbalanced", one, other)
            self.assertIs(balance_holds(table, w, t, paper), over[one] != over[other])
        for count in {*over.values(), (), (1,), (-1, 1)}:
            wanted = set(over.values()) == {count}
            self.assertIs(balance_holds(table, w, t, ("balanced", count)), wanted)

    def test_sets_of_another_size(self):
        table = rankings.table_by_words(2, 4, brute.span(2, 4, ((1, 1, 0, 0), (0, 0, 1, 1))))
        for sets in product(brute.sets(4), repeat=2):
            for t in (0, 1, 2):
                right = is_right(counting.SetCounts(table), 2, t, ("unbalanced", *sets))
                self.assertIs(balance_holds(table, 2, t, ("unbalanced", *sets)), right)

    def test_papers_changed_in_one_place(self):
        table = rankings.table_by_words(2, 4, brute.span(2, 4, ((1, 1, 0, 0), (0, 0, 1, 1))))
        counts = counting.SetCounts(table)
        for w, t in ((2, 2), (2, 1), (4, 3), (3, 2), (0, 0)):
            paper = first_paper(counts, w, t)
            self.assert_call(True, balance_holds, table=table, weight=w, t=t, thing=paper)
            wrong = 0
            for thing in changes(paper):
                right = is_right(counts, w, t, thing)
                wrong += not right
                self.assertIs(balance_holds(table, w, t, thing), right, thing)
            self.assertGreater(wrong, 150)

    def test_other_values(self):
        table = counting.eight_tables()[1]
        for thing in any_values():
            self.assert_call(False, balance_holds, table=table, weight=4, t=2, thing=thing)
            self.assert_call(False, balance_holds, table=table, weight=4, t=2, thing=("balanced", thing))
            self.assert_call(False, balance_holds, table=table, weight=4, t=2, thing=("unbalanced", thing, (0, 1)))
            self.assert_call(False, balance_holds, table=table, weight=4, t=2, thing=("unbalanced", (0, 1), thing))

    def test_bools_are_no_integers(self):
        self.assert_call(True, balance_holds, table=R, weight=0, t=0, thing=("balanced", (1,)))
        self.assert_call(False, balance_holds, table=R, weight=0, t=0, thing=("balanced", (True,)))
        table = rankings.table_by_words(2, 3, {(0, 0, 0), (1, 0, 0)})
        self.assert_call(True, balance_holds, table=table, weight=1, t=1, thing=("unbalanced", (0,), (1,)))
        self.assert_call(False, balance_holds, table=table, weight=1, t=1, thing=("unbalanced", (0,), (True,)))
        self.assert_call(False, balance_holds, table=table, weight=1, t=1, thing=("unbalanced", (False,), (1,)))


class WrongArguments(Case):
    def test_errors_in_their_order(self):
        for n, w in ((1, 0), (3, 2), (8, 8)):
            weights = [n + 1, -1, *others(lambda thing: is_int(thing) and 0 <= thing <= n)]
            sizes = [w + 1, -1, *others(lambda thing: is_int(thing) and 0 <= thing <= w)]
            right = {"table": rankings.uniform(n, 1), "weight": w, "t": w}
            checks = (("table", BadTable, NO_TABLES), ("weight", BadNumber, weights), ("t", BadNumber, sizes))
            self.assert_errors(judge_balance, right, checks)
            self.assert_errors(balance_holds, {**right, "thing": ("balanced", (1,))}, checks)
            del right["t"]
            self.assert_errors(balance, right, checks[:2])

    def test_told_balance(self):
        for thing in NO_TABLES:
            self.assert_error(BadTable(thing), told_balance, table=thing)


class Examples(Case):
    def test_worked_out_by_hand(self):
        self.assert_same(judge_balance(R, 2, 2), ("balanced", (-1, 1)))
        self.assert_same(told_balance(R), 2)


if __name__ == "__main__":
    unittest.main()
