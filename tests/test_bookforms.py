"""mirrorbook/bookforms.py: [1.4] the mirror of a book, [1.5] Books made of books."""

import unittest
from itertools import permutations
from random import Random

from mirrorbook.bookforms import beside, common, fixed, is_within, mirror, repeated, sum_of, turned, without
from mirrorbook.books import Book, words
from mirrorbook.errors import BadOrder, BadPlace, BadPlaces, BadSet, BadWord, OtherFields, OtherPlaces
from tests import brute
from tests.samples import Case, is_int, is_letters, is_places, others, random_rows, sample_books, unit_rows

E = Book(2, 3, ((1, 1, 0), (0, 1, 1)))


def samples(seed, most_places=4, each=2):
    return [Book(q, n, rows) for q, n, rows in sample_books(seed, most_places, each)]


def great_samples(seed):
    """Books of eight places with few words."""
    random = Random(seed)
    return [Book(q, 8, random_rows(random, q, 8, many)) for q in (2, 3, 4, 5) for many in (0, 2, 4)]


def pairs_of_books(seed):
    """Books of the same field and places in twos, alike and unlike ones, one within the other."""
    random = Random(seed)
    found = []
    for q in (2, 3, 4, 5):
        for n in (1, 2, 3, 4):
            for _ in range(4):
                one = random_rows(random, q, n, random.randrange(3))
                other = random_rows(random, q, n, random.randrange(3))
                found += [(Book(q, n, one), Book(q, n, other)), (Book(q, n, one), Book(q, n, one + other))]
                found += [(Book(q, n, ()), Book(q, n, other)), (Book(q, n, one), Book(q, n, unit_rows(n)))]
    return found


class BookCase(Case):
    def assert_words(self, book, q, n, listed):
        self.assertEqual((book.q, book.n), (q, n))
        self.assertEqual(book.dimension, brute.dimension(q, set(listed)))
        self.assertEqual(set(words(book)), set(listed))


class Mirror(BookCase):
    def test_all_checks(self):
        for book in samples(30):
            self.assert_words(mirror(book), book.q, book.n, brute.checks(book.q, book.n, book.rows))

    def test_mirror_of_the_mirror(self):
        for book in samples(31, most_places=8) + great_samples(31):
            found = mirror(book)
            self.assertEqual(found.dimension, book.n - book.dimension)
            self.assertTrue(all(brute.product_of(book.q, a, b) == 0 for a in found.rows for b in book.rows))
            self.assertEqual(mirror(found), book)

    def test_by_position_and_by_name(self):
        self.assert_call(Book(2, 3, ((1, 1, 1),)), mirror, book=E)


class LeftOut(BookCase):
    def test_without_and_fixed(self):
        for book in samples(32):
            for places in brute.sets(book.n)[:-1]:
                self.assert_left_out(book, places)

    def assert_left_out(self, book, places):
        n = book.n - len(places)
        listed = brute.span(book.q, book.n, book.rows)
        self.assert_words(without(book, places), book.q, n, {brute.left_out(word, places) for word in listed})
        zero = [word for word in listed if all(word[place] == 0 for place in places)]
        self.assert_words(fixed(book, places), book.q, n, {brute.left_out(word, places) for word in zero})
        self.assertEqual(mirror(without(book, places)), fixed(mirror(book), places))
        self.assertEqual(mirror(fixed(book, places)), without(mirror(book), places))

    def test_eight_places(self):
        for book in great_samples(33):
            for places in ((), (0,), (7,), (0, 3, 5), (1, 2, 4, 6, 7), (0, 1, 2, 3, 4, 5, 6), (1, 2, 3, 4, 5, 6, 7)):
                self.assert_left_out(book, places)

    def test_no_places(self):
        for book in samples(34):
            self.assert_call(book, without, book=book, places=())
            self.assert_call(book, fixed, book=book, places=())

    def test_wrong_sets(self):
        for n in (1, 2, 3, 8):
            book = Book(3, n, ((1,) * n,))
            every = tuple(range(n))
            wrong = others(lambda thing: is_places(n, thing) and thing != every)
            for places in [every, (n,), (0, 0), (-1,), list(range(n - 1)), *wrong]:
                self.assert_error(BadSet(places), without, book=book, places=places)
                self.assert_error(BadSet(places), fixed, book=book, places=places)


class Beside(BookCase):
    def test_words_behind_words(self):
        for one in samples(35, most_places=3, each=1):
            for other in samples(36, most_places=3, each=1):
                if one.q == other.q:
                    listed = [left + right for left in words(one) for right in words(other)]
                    if len(listed) <= 4096:
                        self.assert_words(beside(one, other), one.q, one.n + other.n, listed)
                    self.assertEqual(mirror(beside(one, other)), beside(mirror(one), mirror(other)))

    def test_eight_places_together(self):
        for q in (2, 3, 4, 5):
            one, other = Book(q, 5, ((1, 1, 1, 1, 0),)), Book(q, 3, ((0, 1, q - 1),))
            listed = [left + right for left in words(one) for right in words(other)]
            self.assert_words(beside(one, other), q, 8, listed)
            whole = Book(q, 4, unit_rows(4))
            self.assert_call(Book(q, 8, unit_rows(8)), beside, one=whole, other=whole)

    def test_wrong_arguments(self):
        for one in samples(37, most_places=8, each=0):
            for other in samples(38, most_places=8, each=0):
                if one.q != other.q:
                    self.assert_error(OtherFields(), beside, one=one, other=other)
                elif one.n + other.n > 8:
                    self.assert_error(BadPlaces(one.n + other.n), beside, one=one, other=other)
                else:
                    self.assertEqual(beside(one, other).n, one.n + other.n)


class Repeated(BookCase):
    def test_letters_again(self):
        for book in samples(39) + [book for book in samples(39, most_places=7, each=0) if book.n > 4]:
            for place in range(book.n):
                found = repeated(book, place)
                self.assertEqual((found.q, found.n, found.dimension), (book.q, book.n + 1, book.dimension))
                if book.n <= 4:
                    listed = [word + (word[place],) for word in words(book)]
                    self.assert_words(found, book.q, book.n + 1, listed)
                self.assert_call(found, repeated, book=book, place=place)

    def test_wrong_places(self):
        for n in (1, 2, 7, 8):
            book = Book(4, n, ((1,) * n,))
            for place in [n, *others(lambda thing: is_int(thing) and 0 <= thing < n)]:
                self.assert_error(BadPlace(place), repeated, book=book, place=place)

    def test_eight_places(self):
        for place in range(8):
            self.assert_error(BadPlaces(9), repeated, book=Book(3, 8, ()), place=place)


class Turned(BookCase):
    def test_letters_at_other_places(self):
        random = Random(40)
        for book in samples(41, most_places=4, each=1):
            for order in permutations(range(book.n)):
                factors = tuple(random.randrange(1, book.q) for _ in range(book.n))
                self.assert_turned(book, order, factors)

    def assert_turned(self, book, order, factors):
        listed = [
            tuple(brute.times(book.q, word[order[i]], factors[i]) for i in range(book.n)) for word in words(book)
        ]
        self.assert_words(turned(book, order, factors), book.q, book.n, listed)

    def test_eight_places(self):
        random = Random(42)
        for book in great_samples(43):
            for _ in range(3):
                order = tuple(random.sample(range(8), 8))
                self.assert_turned(book, order, tuple(random.randrange(1, book.q) for _ in range(8)))

    def test_by_position_and_by_name(self):
        book = Book(3, 2, ((1, 1),))
        self.assert_call(Book(3, 2, ((1, 2),)), turned, book=book, order=(1, 0), factors=(2, 1))

    def test_wrong_orders(self):
        for n in (1, 2, 3, 8):
            book = Book(5, n, ((2,) * n,))
            wrong = others(lambda thing: is_letters(n, thing) and sorted(thing) == list(range(n)))
            for order in [tuple(range(n + 1)), tuple(range(n - 1)), (0,) * (n + 1), list(range(n)), *wrong]:
                self.assert_error(BadOrder(order), turned, book=book, order=order, factors=(1,) * n)
                self.assert_error(BadOrder(order), turned, book=book, order=order, factors=order)

    def test_wrong_factors(self):
        for q in (2, 3, 4, 5):
            book = Book(q, 2, ((1, 1),))
            wrong = others(lambda thing: is_letters(q, thing) and len(thing) == 2 and 0 not in thing)
            for factors in [(0, 1), (1, 0), (q, 1), (1, q), (1,), (1, 1, 1), (True, 1), [1, 1], *wrong]:
                self.assert_error(BadWord(factors), turned, book=book, order=(1, 0), factors=factors)


class TwoBooks(BookCase):
    def test_sum_and_common_book(self):
        for one, other in pairs_of_books(44):
            left, right = (brute.span(book.q, book.n, book.rows) for book in (one, other))
            sums = {brute.word_plus(one.q, a, b) for a in left for b in right}
            self.assert_words(sum_of(one, other), one.q, one.n, sums)
            self.assert_words(common(one, other), one.q, one.n, left & right)
            self.assertEqual(mirror(sum_of(one, other)), common(mirror(one), mirror(other)))
            self.assert_call(left <= right, is_within, one=one, other=other)
            self.assert_call(right <= left, is_within, one=other, other=one)

    def test_eight_places(self):
        for one in great_samples(45):
            for other in great_samples(46):
                if one.q == other.q:
                    both = sum_of(one, other)
                    self.assertTrue(is_within(one, both) and is_within(other, both))
                    self.assertTrue(is_within(common(one, other), one) and is_within(common(one, other), other))
                    dimensions = both.dimension + common(one, other).dimension
                    self.assertEqual(dimensions, one.dimension + other.dimension)
                    self.assertEqual(common(one, both), one)
                    self.assertEqual(is_within(both, one), both == one)
        for q in (2, 3, 4, 5):
            whole = Book(q, 8, unit_rows(8))
            self.assertEqual(sum_of(whole, whole), whole)
            self.assertEqual(common(whole, whole), whole)

    def test_unlike_books(self):
        every = samples(47, most_places=3, each=0)
        for one in every:
            for other in every:
                for call in (sum_of, common, is_within):
                    if one.q != other.q:
                        self.assert_error(OtherFields(), call, one=one, other=other)
                    elif one.n != other.n:
                        self.assert_error(OtherPlaces(), call, one=one, other=other)

    def test_by_position_and_by_name(self):
        one, other = Book(3, 2, ((1, 1),)), Book(3, 2, ((1, 2),))
        self.assert_call(Book(3, 2, ((1, 0), (0, 1))), sum_of, one=one, other=other)
        self.assert_call(Book(3, 2, ()), common, one=one, other=other)


class Unchanged(Case):
    def test_books_that_are_passed_stay_as_they_were(self):
        for one in samples(48, most_places=3):
            text, rows = str(one), one.rows
            other = Book(one.q, one.n, ((1,) * one.n,))
            for form in (sum_of(one, other), common(other, one), beside(one, other), mirror(one)):
                self.assertIsInstance(form, Book)
            fixed(without(repeated(one, 0), ()), ())
            turned(one, tuple(reversed(range(one.n))), (one.q - 1,) * one.n)
            self.assertEqual((str(one), one.rows, other.rows), (text, rows, ((1,) * one.n,)))
            self.assertEqual(one.dimension, len(rows))


class Examples(Case):
    def test_worked_out_by_hand(self):
        self.assert_same(mirror(E), Book(2, 3, ((1, 1, 1),)))
        self.assert_same(without(E, (0,)), Book(2, 2, ((1, 0), (0, 1))))
        self.assert_same(fixed(E, (0,)), Book(2, 2, ((1, 1),)))
        self.assert_same(repeated(E, 0).rows, ((1, 0, 1, 1), (0, 1, 1, 0)))
        self.assert_same(turned(Book(3, 2, ((1, 1),)), (1, 0), (2, 1)).rows, ((1, 2),))


if __name__ == "__main__":
    unittest.main()
