"""Pairs worked out the long way: all words of both books, with the message of each, as [7.1] says."""

from itertools import product
from random import Random

from mirrorbook.books import Book
from mirrorbook.pairs import Pair
from tests import brute
from tests.samples import random_rows, unit_rows


class Sealed:
    """A pair of books, given by their rows, with all messages and all words listed."""

    def __init__(self, q, n, big_rows, small_rows):
        self.q, self.n = q, n
        self.words = sorted(brute.span(q, n, big_rows))
        self.small_words = sorted(brute.span(q, n, small_rows))
        self.big = brute.reduced(q, n, self.words)
        self.small = brute.reduced(q, n, self.small_words)
        self.h = len(self.big) - len(self.small)
        leads = [brute.first(row) for row in self.small]
        self.message_rows = tuple(row for row in self.big if brute.first(row) not in leads)
        self.messages = list(product(range(q), repeat=self.h))
        self.noises = list(product(range(q), repeat=len(self.small)))
        self.seals = {}
        for message in self.messages:
            for noise in self.noises:
                self.seals[self.sum_of(message + noise, self.message_rows + self.small)] = (message, noise)

    def sum_of(self, letters, rows):
        word = (0,) * self.n
        for letter, row in zip(letters, rows):
            word = brute.word_plus(self.q, word, brute.word_times(self.q, letter, row))
        return word

    def heard_messages(self, places):
        """For each hearing of a set the messages of all sealed words that have it, each as often as it comes."""
        found = {}
        for word, (message, _) in self.seals.items():
            found.setdefault(tuple(word[place] for place in places), []).append(message)
        return found

    def told(self, places):
        """What a set tells, by the number of messages for each hearing: all of them are as many."""
        many = {len(set(messages)) for messages in self.heard_messages(places).values()}
        assert len(many) == 1
        return self.h - [t for t in range(self.h + 1) if self.q ** t in many][0]

    def pair(self):
        return Pair(Book(self.q, self.n, self.big), Book(self.q, self.n, self.small))


def drawn_rows(random, q, n):
    """The rows of a big book and of a small one within it."""
    while True:
        big = random_rows(random, q, n, random.randrange(1, n + 1))
        words = sorted(brute.span(q, n, big))
        small = tuple(random.choice(words) for _ in range(random.randrange(0, n)))
        if len(brute.span(q, n, small)) < len(words):
            return big, small


def small_pairs(seed, each=3, most_words=300):
    """Pairs of each field, of one to five places, whose big books have not many words."""
    random = Random(seed)
    found = []
    for q in (2, 3, 4, 5):
        for n in (1, 2, 3, 4, 5):
            if q**n <= most_words:
                found.append(Sealed(q, n, unit_rows(n), ()))
            got = 0
            while got < each:
                big, small = drawn_rows(random, q, n)
                if len(brute.span(q, n, big)) <= most_words:
                    found.append(Sealed(q, n, big, small))
                    got += 1
    return found


def eight_pairs():
    """Pairs of eight places, one of each field and some more."""

    def rows(*texts):
        return tuple(tuple(map(int, text)) for text in texts)

    found = []
    for q, big, small in (
        (2, ("10000111", "01001011", "00101101", "00011110"), ("11001100",)),
        (2, ("10000000", "01000000", "00100000", "00011000", "00000110"), ()),
        (2, ("11111111", "00001111", "00110011", "01010101"), ("11111111", "00111100")),
        (3, ("10020112", "01011200", "00102021"), ("11110012",)),
        (4, ("10230011", "01121030"), ()),
        (5, ("12340124", "01111003"), ("12340124",)),
    ):
        small = rows(*small)
        if q == 3:
            small = (sorted(brute.span(3, 8, rows(*big)))[5],)
        found.append(Sealed(q, 8, rows(*big), small))
    return found
