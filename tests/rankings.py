"""Tables worked out the long way, from their definitions and from all words of a book."""

from itertools import combinations
from random import Random

from mirrorbook.books import Book
from tests import brute
from tests.samples import is_int, others, random_rows, unit_rows

PLACES = {2**n: n for n in range(1, 9)}


def as_ranks(n, rank_of):
    """The tuple of the ranks of all sets of n places, by their numbers."""
    found = [0] * 2**n
    for places in brute.sets(n):
        found[brute.number_of(places)] = rank_of(places)
    return tuple(found)


def as_dict(table):
    """The ranks of a table by sets."""
    return {places: table[brute.number_of(places)] for places in brute.sets(PLACES[len(table)])}


def union(*sets):
    return tuple(sorted(set().union(*sets)))


def faults(ranks):
    """All faults of the ranks, as they stand."""
    n = PLACES[len(ranks)]
    rank = as_dict(ranks)
    found = [] if rank[()] == 0 else [("start",)]
    for places in sorted(brute.sets(n), key=brute.number_of):
        new = brute.rest(n, places)
        for e in new:
            if rank[union(places, (e,))] not in (rank[places], rank[places] + 1):
                found.append(("step", places, e))
        for e, f in combinations(new, 2):
            alone = {rank[union(places, (e,))], rank[union(places, (f,))]}
            if alone == {rank[places]} and rank[union(places, (e, f))] != rank[places]:
                found.append(("pair", places, e, f))
    return found


def is_table(ranks):
    """Whether the ranks are those of a table, asked of all sets in twos."""
    rank = as_dict(ranks)
    if any(not 0 <= rank[places] <= len(places) for places in rank):
        return False
    for one in rank:
        for other in rank:
            shared = tuple(place for place in one if place in other)
            if rank[one] + rank[other] < rank[union(one, other)] + rank[shared]:
                return False
            if shared == one and rank[one] > rank[other]:
                return False
    return True


def fits_ranks(thing):
    """Whether a value is a tuple of 2 ** n integers."""
    return type(thing) is tuple and all(map(is_int, thing)) and len(thing) in PLACES


def no_tables():
    """Values that are no tables, some of them nearly so."""
    near = [(0,), (0, 1, 1), (0, 0, 0, 1), (1, 1), [0, 1], (0, True), (0, 2), uniform(8, 3)[:-1]]
    return near + others(lambda thing: fits_ranks(thing) and is_table(thing))


def rank_by_words(q, listed, places):
    """The rank of a set: of all words one in q ** rank is 0 there."""
    zero = [word for word in listed if all(word[place] == 0 for place in places)]
    return brute.dimension(q, listed) - brute.dimension(q, zero)


def table_by_words(q, n, listed):
    return as_ranks(n, lambda places: rank_by_words(q, listed, places))


def mirrored(table):
    n = PLACES[len(table)]
    rank = as_dict(table)
    return as_ranks(n, lambda places: len(places) + rank[brute.rest(n, places)] - rank[tuple(range(n))])


def uniform(n, k):
    return as_ranks(n, lambda places: min(len(places), k))


def beside(one, other):
    """The table in which the rank of a set is the sum of the ranks of its two parts."""
    return tuple(ahead + behind for behind in other for ahead in one)


def bookless():
    """A table of eight places that no book has over any field (P. Vamos)."""
    flat = ((0, 1, 2, 3), (0, 1, 4, 5), (0, 1, 6, 7), (2, 3, 4, 5), (2, 3, 6, 7))
    return as_ranks(8, lambda places: 3 if places in flat else min(len(places), 4))


def fano(loose):
    """A table of seven places for books of 2 and 4 letters alone, or if loose for those of 3 and 5."""
    lines = [(0, 1, 2), (0, 3, 4), (0, 5, 6), (1, 3, 5), (1, 4, 6), (2, 3, 6), (2, 4, 5)][loose:]
    return as_ranks(7, lambda places: 2 if places in lines else min(len(places), 3))


def book_tables():
    """Some books of one to four places, and their tables."""
    random = Random(60)
    found = []
    for q in (2, 3, 4, 5):
        for n in (1, 2, 3, 4):
            for rows in (unit_rows(n)[:1], random_rows(random, q, n, 2), random_rows(random, q, n, 3)):
                book = Book(q, n, rows)
                found.append((book, table_by_words(q, n, brute.span(q, n, rows))))
    return found


def small_tables():
    """Tables of one to four places, for some of which there is no book of few letters."""
    found = [uniform(n, k) for n in (1, 2, 3, 4) for k in range(n + 1)]
    return found + [table for _, table in book_tables()]


def great_tables():
    """Tables of six to eight places, also such that no book has."""
    q, n, rows = 3, 6, ((1, 1, 0, 0, 2, 0), (0, 0, 1, 2, 0, 0))
    return [
        table_by_words(q, n, brute.span(q, n, rows)),
        fano(False),
        fano(True),
        uniform(8, 2),
        uniform(8, 8),
        uniform(8, 0),
        bookless(),
    ]
