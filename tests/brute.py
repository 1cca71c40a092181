"""Books worked out the long way: all words listed, with sums and products written out."""

from itertools import combinations, product

FOUR_SUM = [[0, 1, 2, 3], [1, 0, 3, 2], [2, 3, 0, 1], [3, 2, 1, 0]]
FOUR_TIMES = [[0, 0, 0, 0], [0, 1, 2, 3], [0, 2, 3, 1], [0, 3, 1, 2]]


def plus(q, a, b):
    return FOUR_SUM[a][b] if q == 4 else (a + b) % q


def minus(q, a):
    """The letter whose sum with a is 0."""
    return [b for b in range(q) if plus(q, a, b) == 0][0]


def times(q, a, b):
    return FOUR_TIMES[a][b] if q == 4 else a * b % q


def word_plus(q, one, other):
    return tuple(plus(q, a, b) for a, b in zip(one, other))


def word_times(q, letter, word):
    return tuple(times(q, letter, a) for a in word)


def product_of(q, one, other):
    total = 0
    for a, b in zip(one, other):
        total = plus(q, total, times(q, a, b))
    return total


def all_words(q, n):
    return list(product(range(q), repeat=n))


def span(q, n, rows):
    """The set of all sums of the rows times letters."""
    found = {(0,) * n}
    for row in rows:
        parts = [word_times(q, letter, row) for letter in range(q)]
        found = {word_plus(q, word, part) for word in found for part in parts}
    return found


def checks(q, n, rows):
    """The set of all words whose product with each row is 0."""
    return {word for word in all_words(q, n) if all(product_of(q, word, row) == 0 for row in rows)}


def dimension(q, words):
    count, k = 1, 0
    while count < len(words):
        count, k = count * q, k + 1
    assert count == len(words)
    return k


def reduced(q, n, words):
    """The reduced rows of the book of these words, found among the words by their properties."""
    k = dimension(q, words)
    leads = sorted({first(word) for word in words if any(word)})
    assert len(leads) == k
    rows = []
    for lead in leads:
        fit = [
            word
            for word in words
            if any(word)
            and first(word) == lead
            and word[lead] == 1
            and all(word[other] == 0 for other in leads if other != lead)
        ]
        assert len(fit) == 1
        rows.append(fit[0])
    return tuple(rows)


def first(word):
    return min(place for place, letter in enumerate(word) if letter)


def support(word):
    return tuple(place for place, letter in enumerate(word) if letter)


def left_out(word, places):
    return tuple(letter for place, letter in enumerate(word) if place not in places)


def sets(n):
    """All sets of n places in order: shorter ones first."""
    return [places for size in range(n + 1) for places in combinations(range(n), size)]


def number_of(places):
    return sum(2**place for place in places)


def rest(n, places):
    return tuple(place for place in range(n) if place not in places)
