"""mirrorbook/readers.py: the span rows of [5.2]."""

import unittest
from itertools import permutations, product
from random import Random

from mirrorbook.books import Book
from mirrorbook.cuts import spans
from mirrorbook.errors import BadOrder
from mirrorbook.readers import are_span_rows, span_rows
from mirrorbook.tables import table_of
from tests import brute, rankings
from tests.samples import Case, any_values, changes, is_letters, others, random_rows, unit_rows

BOOKS = [book for book, _ in rankings.book_tables()]
E = Book(2, 3, ((1, 1, 0), (0, 1, 1)))
WIDE = Book(3, 5, ((1, 0, 2, 1, 0), (0, 1, 1, 0, 2), (0, 0, 1, 1, 1)))


def great_books():
    random = Random(150)
    found = []
    for q in (2, 3, 4, 5):
        for n in (5, 6, 7, 8):
            for k in (2, 4, n):
                found.append((Book(q, n, random_rows(random, q, n, k)), tuple(random.sample(range(n), n))))
        found += [(Book(q, 8, ()), tuple(range(8))), (Book(q, 8, unit_rows(8)), tuple(range(8))[::-1])]
    return found


def is_right(q, words, pairs, order, thing):
    """Whether any value is a tuple of words that begin and end with the spans."""
    if type(thing) is not tuple or len(thing) != len(pairs):
        return False
    for pair, row in zip(pairs, thing):
        if not is_letters(q, row) or row not in words:
            return False
        positions = [i for i, place in enumerate(order) if row[place]]
        if not positions or (positions[0], positions[-1]) != pair:
            return False
    return True


class SpanRows(Case):
    def test_begin_and_end(self):
        books = [(book, order) for book in BOOKS for order in permutations(range(book.n))]
        for book, order in books:
            words = brute.span(book.q, book.n, book.rows)
            found = span_rows(book, order)
            self.assertTrue(is_right(book.q, words, spans(table_of(book), order), order, found))
            self.assertEqual(brute.span(book.q, book.n, found), words)
            self.assertIs(are_span_rows(book, order, found), True)

    def test_great_books(self):
        for book, order in great_books():
            found = span_rows(book, order)
            self.assert_call(found, span_rows, book=book, order=order)
            self.assertTrue(is_right(book.q, found, spans(table_of(book), order), order, found))
            self.assertEqual(Book(book.q, book.n, found), book)
            self.assert_call(True, are_span_rows, book=book, order=order, thing=found)

    def test_all_rows_that_there_can_be(self):
        random = Random(151)
        for book in BOOKS:
            words = sorted(brute.span(book.q, book.n, book.rows))
            for _ in range(2):
                order = tuple(random.sample(range(book.n), book.n))
                pairs = spans(table_of(book), order)
                every = list(product(words, repeat=book.dimension))
                for rows in random.sample(every, min(len(every), 200)):
                    right = is_right(book.q, words, pairs, order, rows)
                    self.assertIs(are_span_rows(book, order, rows), right)

    def test_multiples_and_sums_with_rows_within(self):
        random = Random(152)
        for book, order in great_books():
            pairs = spans(table_of(book), order)
            rows = list(span_rows(book, order))
            for m, (a, b) in enumerate(pairs):
                rows[m] = brute.word_times(book.q, random.randrange(1, book.q), rows[m])
                for other, (c, d) in enumerate(pairs):
                    if a < c and d < b:
                        part = brute.word_times(book.q, random.randrange(book.q), rows[other])
                        rows[m] = brute.word_plus(book.q, rows[m], part)
            self.assert_call(True, are_span_rows, book=book, order=order, thing=tuple(rows))

    def test_rows_exchanged_doubled_left_out(self):
        for book, order in great_books():
            rows = span_rows(book, order)
            if len(rows) > 1:
                for wrong in (rows[::-1], rows[1:], rows[:-1], rows + rows[:1], rows[:1] + rows, rows[:1] * len(rows)):
                    self.assert_call(False, are_span_rows, book=book, order=order, thing=wrong)
                for wrong in (list(rows), rows[:1] + ((0,) * book.n,) + rows[2:], (rows,), rows[0]):
                    self.assert_call(False, are_span_rows, book=book, order=order, thing=wrong)

    def test_rows_in_another_order(self):
        kinds = set()
        for order in permutations(range(3)):
            for other in permutations(range(3)):
                rows = span_rows(E, other)
                right = is_right(2, brute.span(2, 3, E.rows), spans(table_of(E), order), order, rows)
                self.assertIs(are_span_rows(E, order, rows), right)
                kinds.add(right)
        self.assertEqual(kinds, {True, False})

    def test_changed_in_one_place(self):
        for book, order in ((E, (0, 1, 2)), (WIDE, (2, 0, 4, 1, 3)), (Book(4, 2, ((1, 3),)), (1, 0))):
            words = brute.span(book.q, book.n, book.rows)
            pairs = spans(table_of(book), order)
            for thing in changes(span_rows(book, order)):
                right = is_right(book.q, words, pairs, order, thing)
                self.assertIs(are_span_rows(book, order, thing), right, thing)

    def test_no_words(self):
        for q in (2, 3, 4, 5):
            for n in (1, 8):
                book, order = Book(q, n, ()), tuple(range(n))
                self.assert_call((), span_rows, book=book, order=order)
                self.assert_call(True, are_span_rows, book=book, order=order, thing=())
                self.assert_call(False, are_span_rows, book=book, order=order, thing=((0,) * n,))

    def test_other_values(self):
        for thing in any_values():
            for some in (thing, (thing,), (thing, (0, 1, 1)), ((1, 1, 0), thing)):
                self.assert_call(False, are_span_rows, book=E, order=(0, 1, 2), thing=some)

    def test_wrong_orders(self):
        for n in (1, 3, 8):
            book = Book(5, n, ((1,) * n,))
            wrong = others(lambda thing: is_letters(n, thing) and sorted(thing) == list(range(n)))
            for order in [tuple(range(n + 1)), (0,) * n + (n,), list(range(n)), *wrong]:
                self.assert_error(BadOrder(order), span_rows, book=book, order=order)
                self.assert_error(BadOrder(order), are_span_rows, book=book, order=order, thing=((1,) * n,))
                self.assert_error(BadOrder(order), are_span_rows, book=book, order=order, thing=order)


if __name__ == "__main__":
    unittest.main()
