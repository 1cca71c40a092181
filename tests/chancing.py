"""Chances worked out the long way: by sums over all sets of places that are left, with exact fractions."""

from fractions import Fraction
from itertools import combinations

from tests import brute, rankings

CHANCES = tuple(
    Fraction(top, bottom) for top, bottom in ((0, 1), (1, 1), (1, 2), (1, 3), (3, 4), (2, 5), (5, 7), (1, 9))
)
CHANCES += tuple(Fraction(at, 101) for at in (1, 13, 50, 99))


def value_of(polynomial, number):
    found = Fraction(0)
    for coefficient in reversed(polynomial):
        found = found * number + coefficient
    return found


def as_number(fraction):
    """A fraction as a pair (top, bottom) in lowest terms."""
    return (Fraction(fraction).numerator, Fraction(fraction).denominator)


def as_fraction(number):
    return Fraction(*number)


def with_(places, place):
    return tuple(sorted({*places, place}))


class ByRanks:
    """What sets of places tell, by the ranks of a table."""

    def __init__(self, table):
        self.n = rankings.PLACES[len(table)]
        self.rank = rankings.as_dict(table)
        self.k = table[-1]

    def amount(self, left):
        return self.rank[left]

    def is_all(self, left):
        return self.rank[left] == self.k

    def is_in_doubt(self, left, place):
        return self.rank[with_(left, place)] > self.rank[left]

    def is_free(self, lost):
        return self.rank[lost] == len(lost)


class ByWords:
    """What sets of places tell, by all words of a book."""

    def __init__(self, q, n, rows):
        self.q, self.n = q, n
        self.words = sorted(brute.span(q, n, rows))
        self.heard = {places: {tuple(word[at] for at in places) for word in self.words} for places in brute.sets(n)}
        self.k = brute.dimension(q, self.words)

    def amount(self, left):
        return brute.dimension(self.q, self.heard[left])

    def is_all(self, left):
        return len(self.heard[left]) == len(self.words)

    def is_in_doubt(self, left, place):
        """Whether two words are the same on what is left, but not at the place."""
        return len({(tuple(word[at] for at in left), word[place]) for word in self.words}) > len(self.heard[left])

    def is_free(self, lost):
        return len(self.heard[lost]) == self.q ** len(lost)


def average(places, amount, chance_of):
    """The sum over all sets of some places of their amounts times the chance that just they are left."""
    total = Fraction(0)
    for size in range(len(places) + 1):
        for left in combinations(places, size):
            if amount(left):
                chance = Fraction(amount(left))
                for place in places:
                    chance *= 1 - chance_of[place] if place in left else chance_of[place]
                total += chance
    return total


def all_places(one):
    return tuple(range(one.n))


def other_places(one, place):
    return tuple(at for at in range(one.n) if at != place)


def returned(one, chance_of):
    return average(all_places(one), one.is_all, chance_of)


def known(one, chance_of):
    return average(all_places(one), one.amount, chance_of)


def doubt(one, place, chance_of):
    return average(other_places(one, place), lambda left: one.is_in_doubt(left, place), chance_of)


def turning(one, place, chance_of):
    def turns(left):
        return not one.is_all(left) and one.is_all(with_(left, place))

    return average(other_places(one, place), turns, chance_of)


def free(one, chance_of):
    return average(all_places(one), lambda left: one.is_free(brute.rest(one.n, left)), chance_of)
