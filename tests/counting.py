"""Counts worked out the long way: by sums over sets of places, and by stacks of words listed one by one."""

from collections import Counter
from itertools import combinations, product

from tests import brute, rankings


def trim(coefficients):
    found = list(coefficients)
    while found and found[-1] == 0:
        found.pop()
    return tuple(found)


def add(polynomials):
    found = Counter()
    for one in polynomials:
        for degree, coefficient in enumerate(one):
            found[degree] += coefficient
    return trim(found[degree] for degree in range(max(found, default=-1) + 1))


def multiply(one, other):
    found = [0] * (len(one) + len(other))
    for low, first in enumerate(one):
        for high, second in enumerate(other):
            found[low + high] += first * second
    return trim(found)


def scale(integer, one):
    return trim(integer * coefficient for coefficient in one)


def raised(one, many):
    found = (1,)
    for _ in range(many):
        found = multiply(found, one)
    return found


def value_of(one, integer):
    return sum(coefficient * integer**degree for degree, coefficient in enumerate(one))


def within(places):
    """All sets within a set."""
    return [some for size in range(len(places) + 1) for some in combinations(places, size)]


def containing(n, places):
    """All sets of n places that contain a set."""
    return [one for one in brute.sets(n) if set(places) <= set(one)]


class SetCounts:
    """The counts of all sets of a table, by the sums of [3.2]."""

    def __init__(self, table):
        self.n = rankings.PLACES[len(table)]
        self.sets = brute.sets(self.n)
        self.k = table[-1]
        self.rank = rankings.as_dict(table)
        self.hold = {one: self.k - self.rank[brute.rest(self.n, one)] for one in self.sets}
        self.within = {one: (0,) * self.hold[one] + (1,) for one in self.sets}
        self.of = {one: self.count_of(one) for one in self.sets}

    def count_of(self, one):
        found = Counter()
        for less in within(one):
            found[self.hold[less]] += (-1) ** (len(one) - len(less))
        return trim(found[degree] for degree in range(self.k + 1))

    def over(self, places):
        return add(self.of[one] for one in containing(self.n, places))

    def weights(self):
        return tuple(add(self.of[one] for one in combinations(range(self.n), w)) for w in range(self.n + 1))

    def weight_over(self, w, places):
        return add(self.of[one] for one in combinations(range(self.n), w) if set(places) <= set(one))

    def rank_counts(self):
        ranks = [[self.rank[one] for one in combinations(range(self.n), size)] for size in range(self.n + 1)]
        return tuple(tuple(row.count(rank) for rank in range(self.k + 1)) for row in ranks)

    def is_balanced(self, w, t):
        return len({self.weight_over(w, places) for places in combinations(range(self.n), t)}) == 1

    def balance(self, w):
        """The greatest t for which w is balanced, and whether it is so for all lesser numbers."""
        fit = [t for t in range(w + 1) if self.is_balanced(w, t)]
        return max(fit), fit == list(range(max(fit) + 1))


def supports_of_stacks(n, words, many):
    """How many stacks of so many words have each support."""
    found = Counter()
    for stack in product(words, repeat=many):
        found[tuple(place for place in range(n) if any(word[place] for word in stack))] += 1
    return found


def sub_books(q, n, rows):
    """The sets of the words of all sub-books of the book of these rows."""
    words = sorted(brute.span(q, n, rows))
    found = {frozenset({(0,) * n})}
    for _ in range(brute.dimension(q, words)):
        found |= {frozenset(brute.span(q, n, [*some, word])) for some in list(found) for word in words}
    return found


def support_of_all(n, words):
    return tuple(place for place in range(n) if any(word[place] for word in words))


def middle_tables():
    """Tables of five to seven places, the first of them such that few fields have books of them."""
    found = [rankings.uniform(5, 2), rankings.uniform(6, 3), rankings.uniform(7, 0), rankings.uniform(7, 7)]
    for q, n, rows in (
        (2, 5, ((1, 1, 0, 0, 1), (0, 1, 1, 1, 0))),
        (3, 5, ((1, 0, 2, 0, 0), (0, 0, 1, 1, 0), (0, 0, 0, 0, 0))),
        (4, 6, ((1, 0, 0, 1, 2, 3), (0, 1, 0, 1, 1, 1), (0, 0, 1, 3, 2, 0))),
        (5, 6, ((1, 1, 1, 1, 1, 0), (0, 1, 2, 3, 4, 0))),
        (2, 7, ((1, 0, 0, 0, 1, 1, 0), (0, 1, 0, 0, 1, 0, 1), (0, 0, 1, 0, 0, 1, 1), (0, 0, 0, 1, 1, 1, 1))),
    ):
        found.append(rankings.table_by_words(q, n, brute.span(q, n, rows)))
    return found


def eight_tables():
    """More tables of eight places, of a book over each of some fields."""
    found = []
    for q, rows in (
        (2, ("11110000", "00111100", "00001111", "01010101")),
        (2, ("11000000", "01100000", "00010111")),
        (3, ("10120000", "01110000", "00001012")),
        (4, ("12300011", "01201100")),
    ):
        listed = brute.span(q, 8, [tuple(int(letter) for letter in row) for row in rows])
        found.append(rankings.table_by_words(q, 8, listed))
    return found
