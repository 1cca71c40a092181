"""mirrorbook/pairs.py: the class, its texts, pairs made of pairs: [7.1], [7.4], [7.7], [7.8], [7.9]."""

import unittest

from mirrorbook.bookforms import beside, fixed, mirror, without
from mirrorbook.books import Book
from mirrorbook.errors import (
    BadPair,
    BadPlaces,
    BadSet,
    BadText,
    BookError,
    NoMessage,
    NotWithin,
    OtherFields,
    OtherPlaces,
)
from mirrorbook.pairs import Pair, dealt, mirrored, pairs_beside, told_by
from mirrorbook.tables import table_of
from tests import brute, rankings, sealing, writing
from tests.samples import Case, any_values, changes, is_int, is_places, others, sample_books

PAIRS = sealing.small_pairs(70) + sealing.eight_pairs()
P = Pair(Book(3, 3, ((1, 0, 2), (0, 1, 2))), Book(3, 3, ((1, 1, 1),)))


class Made(Case):
    def test_attributes(self):
        for one in PAIRS:
            pair = one.pair()
            self.assert_same((pair.q, pair.n, pair.length), (one.q, one.n, one.h))
            self.assert_same((pair.big.rows, pair.small.rows), (one.big, one.small))
            self.assert_same(pair.message_rows, one.message_rows)
            self.assert_same(len(pair.message_rows), one.h)
            self.assert_call(pair, Pair, big=pair.big, small=pair.small)

    def test_each_word_is_sealed_in_one_way(self):
        for one in PAIRS:
            self.assertEqual(sorted(one.seals), one.words)
            self.assertEqual(len(one.seals), len(one.messages) * len(one.noises))

    def test_values_that_are_no_books(self):
        wrong = [thing for thing in any_values() if not isinstance(thing, Book)] + [P, (P.big,), [P.small]]
        for big, small in ((P.big, P.small), (P.big, P.big), (P.small, Book(2, 1, ()))):
            checks = [("big", BadPair, wrong), ("small", BadPair, wrong)]
            self.assert_errors(Pair, {"big": big, "small": small}, checks)

    def test_other_fields_and_places(self):
        for big, small in ((Book(2, 3, ()), Book(3, 4, ((1, 0, 0, 1),))), (Book(4, 2, ()), Book(2, 2, ((1, 1),)))):
            self.assert_error(OtherFields(), Pair, big=big, small=small)
            self.assert_error(OtherFields(), Pair, big=small, small=big)
        for big, small in ((Book(3, 3, ()), Book(3, 4, ((1, 0, 0, 1),))), (Book(2, 8, ()), Book(2, 1, ()))):
            self.assert_error(OtherPlaces(), Pair, big=big, small=small)
            self.assert_error(OtherPlaces(), Pair, big=small, small=big)

    def test_the_first_row_that_is_not_within(self):
        books = [Book(q, n, rows) for q, n, rows in sample_books(72, most_places=4, each=4)]
        met = set()
        for big in books:
            for small in [book for book in books if (book.q, book.n) == (big.q, big.n)]:
                words = brute.span(big.q, big.n, big.rows)
                outside = [row for row in small.rows if row not in words]
                if outside:
                    met.add(small.rows.index(outside[0]))
                    self.assert_error(NotWithin(outside[0]), Pair, big=big, small=small)
                elif len(small.rows) == len(big.rows):
                    self.assert_error(NoMessage(), Pair, big=big, small=small)
                else:
                    self.assertEqual(Pair(big, small).length, big.dimension - small.dimension)
        self.assertLessEqual({0, 1, 2}, met)

    def test_the_same_book_twice(self):
        for book in (P.big, P.small, Book(2, 1, ()), Book(5, 8, ())):
            self.assert_error(NoMessage(), Pair, big=book, small=book)

    def test_equal_pairs(self):
        for at, one in enumerate(PAIRS):
            pair = one.pair()
            # Other rows of the same books make an equal pair.
            same = Pair(Book(one.q, one.n, one.big[::-1]), Book(one.q, one.n, one.small + one.small[:1]))
            self.assertTrue(pair == same and not pair != same)
            for other in PAIRS[at + 1 : at + 9]:
                equal = (one.q, one.n, one.big, one.small) == (other.q, other.n, other.big, other.small)
                self.assertIs(pair == other.pair(), equal)
                self.assertIs(pair != other.pair(), not equal)
        for thing in [*any_values(), P.big, P.small, (P.big, P.small), str(P)]:
            if not isinstance(thing, Pair):
                self.assertTrue(P != thing and not P == thing)
        big, middle, small = Book(2, 3, ((1, 0, 0), (0, 1, 0))), Book(2, 3, ((1, 1, 0),)), Book(2, 3, ())
        self.assertFalse(Pair(big, small) == Pair(big, middle) or Pair(big, small) == Pair(middle, small))


class Texts(Case):
    def test_texts(self):
        for one in PAIRS:
            lines = []
            for rows in (one.big, one.small):
                lines += [f"book {one.q} {one.n}"] + [" ".join(map(str, row)) for row in rows] + ["hides"]
            text = "\n".join(lines[:-1])
            self.assert_same(str(one.pair()), text)
            self.assert_call(one.pair(), Pair.read, text=text)
            self.assert_same(str(Pair.read(text)), text)

    def test_changed_lines(self):
        seen = set()
        for one in PAIRS[::6] + PAIRS[-6:-3]:
            for text in writing.line_changes(str(one.pair())):
                found = writing.pair_of(text.split("\n"))
                if isinstance(found, int):
                    seen.add(found)
                    self.assert_error(BadText(found + 1), Pair.read, text=text)
                else:
                    self.assert_call(Pair(Book(*found[0]), Book(*found[1])), Pair.read, text=text)
        self.assertLessEqual(set(range(9)), seen)

    def test_where_hides_stands(self):
        for text, line in (
            ("", 1),
            ("hides", 1),
            ("hides\nhides", 1),
            ("hides\nbook 2 3\nhides\nbook 2 3", 1),
            ("book 2 3", 2),
            ("book 2 3\n1 0 0", 3),
            ("book 2 3\n1 0 0\nbook 2 3", 3),
            ("book 2 3\n1 0 0\nhides", 4),
            ("book 2 3\n1 0 0\nhides\n", 4),
            ("book 2 3\n1 0 0\nhides\nhides", 4),
            ("book 2 3\n1 0 0\nhides\nhides\nbook 2 3", 4),
            ("book 2 3\n1 0 0\nhides\nbook 2 3\nhides", 5),
            ("book 2 3\n1 0 0\nhides\nbook 2 3\nhides\nbook 2 3", 5),
            ("book 2 3\n1 0 0\n hides\nbook 2 3", 3),
            ("book 2 3\n1 0 0\nhides \nbook 2 3", 3),
            ("book 2 3\nhides\nbook 2 3", 4),
            ("book 2 3\n1 0 0\nhides\nbook 2 3\n1 0 0", 6),
            ("book 2 3\n1 0 0\nhides\nbook 2 3\n0 1 0", 6),
            ("book 2 3\n1 0 0\nhides\nbook 3 3", 5),
            ("book 2 3\n1 0 0\nhides\nbook 2 4", 5),
            ("book 2 3\n1 0 0\nhides\nbook 2 4\n0 1 0", 5),
            ("book 2 3\n1 0 0\nhides\nbook 2 3\n", 5),
            ("book 2 3\n2 0 0\nhides\nbook 2 9", 2),
            ("book 2 9\n2 0 0", 1),
        ):
            self.assert_error(BadText(line), Pair.read, text=text)
        good = "book 2 3\n1 0 0\nhides\nbook 2 3"
        self.assert_call(Pair(Book(2, 3, ((1, 0, 0),)), Book(2, 3, ())), Pair.read, text=good)

    def test_no_string(self):
        for text in [*others(lambda thing: type(thing) is str), P, P.big, (str(P),), [str(P)]]:
            self.assert_error(BadText(0), Pair.read, text=text)

    def test_any_string(self):
        for text in [thing for thing in any_values() if type(thing) is str] + ["\n" * 1999, "hides\n" * 300]:
            line = 2 if text == "book 2 3" else 1
            self.assert_error(BadText(line), Pair.read, text=text)


class Mirrors(Case):
    def test_mirrored(self):
        for one in PAIRS:
            pair = one.pair()
            big = brute.checks(one.q, one.n, one.small) if one.q ** one.n <= 6561 else None
            found = mirrored(pair)
            self.assert_same((found.big, found.small), (mirror(pair.small), mirror(pair.big)))
            if big is not None:
                self.assertEqual(brute.span(one.q, one.n, found.big.rows), big)
            self.assert_same(found.length, one.h)
            self.assert_call(found, mirrored, pair=pair)
            self.assert_call(pair, mirrored, pair=found)

    def test_what_a_set_and_its_rest_tell(self):
        for one in PAIRS:
            pair, other = one.pair(), mirrored(one.pair())
            for places in brute.sets(one.n):
                self.assertEqual(told_by(pair, places) + told_by(other, brute.rest(one.n, places)), one.h)


def deals():
    """Books with each set that is neither () nor all places."""
    for q, n, rows in sample_books(73, most_places=4, each=4):
        for places in brute.sets(n):
            if 0 < len(places) < n:
                yield q, n, rows, places


class Dealt(Case):
    def test_all_sets(self):
        lengths = set()
        for q, n, rows, places in deals():
            book = Book(q, n, rows)
            words = brute.span(q, n, rows)
            big = {brute.left_out(word, places) for word in words}
            small = {brute.left_out(word, places) for word in words if not any(word[place] for place in places)}
            if big == small:
                self.assert_error(NoMessage(), dealt, book=book, places=places)
                continue
            found = dealt(book, places)
            self.assertEqual(brute.span(q, n - len(places), found.big.rows), big)
            self.assertEqual(brute.span(q, n - len(places), found.small.rows), small)
            self.assert_same((found.big, found.small), (without(book, places), fixed(book, places)))
            self.assert_call(found, dealt, book=book, places=places)
            self.assert_told(book, places, found)
            lengths.add(found.length)
        self.assertEqual(lengths, {1, 2})

    def assert_told(self, book, dealer, found):
        rank = rankings.as_dict(table_of(book))
        rest = brute.rest(book.n, dealer)
        self.assertEqual(found.length, rank[dealer] + rank[rest] - rank[tuple(range(book.n))])
        for places in brute.sets(len(rest)):
            old = tuple(rest[place] for place in places)
            both = rankings.union(old, dealer)
            self.assertEqual(told_by(found, places), rank[old] + rank[dealer] - rank[both])

    def test_eight_places(self):
        book = Book(2, 8, PAIRS[-6].big)
        for places in ((0,), (0, 1, 2), (1, 3, 5, 7), tuple(range(7))):
            self.assert_told(book, places, dealt(book, places))

    def test_sets_that_are_none(self):
        for n in (1, 2, 3, 8):
            book = Book(3, n, ((1,) * n,))
            wrong = [(), tuple(range(n)), (n,), (0, 0), (1, 0), [0], (-1,)]
            wrong += others(lambda thing: is_places(n, thing) and 0 < len(thing) < n)
            for places in wrong:
                self.assert_error(BadSet(places), dealt, book=book, places=places)
            self.assert_error(BadSet(()), dealt, book=Book(3, n, ()), places=())
        self.assert_error(NoMessage(), dealt, book=Book(3, 2, ()), places=(1,))

    def test_worked_out(self):
        found = dealt(Book(2, 4, ((1, 1, 1, 1),)), (0,))
        self.assert_same(found, Pair(Book(2, 3, ((1, 1, 1),)), Book(2, 3, ())))
        self.assertEqual([told_by(found, (place,)) for place in range(3)], [1, 1, 1])


class Beside(Case):
    def test_pairs_of_the_same_field(self):
        for at, one in enumerate(PAIRS):
            for other in PAIRS[at : at + 5]:
                first, second = one.pair(), other.pair()
                if one.q != other.q:
                    self.assert_error(OtherFields(), pairs_beside, one=first, other=second)
                elif one.n + other.n > 8:
                    self.assert_error(BadPlaces(one.n + other.n), pairs_beside, one=first, other=second)
                else:
                    self.assert_beside(first, second)

    def assert_beside(self, first, second):
        found = pairs_beside(first, second)
        self.assert_same(found.big, beside(first.big, second.big))
        self.assert_same(found.small, beside(first.small, second.small))
        self.assert_same(found.length, first.length + second.length)
        self.assert_call(found, pairs_beside, one=first, other=second)
        for places in brute.sets(found.n):
            ahead = tuple(place for place in places if place < first.n)
            behind = tuple(place - first.n for place in places if place >= first.n)
            self.assertEqual(told_by(found, places), told_by(first, ahead) + told_by(second, behind))

    def test_sums_of_places(self):
        eight, one = sealing.eight_pairs()[0].pair(), Pair(Book(2, 1, ((1,),)), Book(2, 1, ()))
        self.assert_error(BadPlaces(9), pairs_beside, one=eight, other=one)
        self.assert_error(BadPlaces(16), pairs_beside, one=eight, other=eight)
        self.assert_error(OtherFields(), pairs_beside, one=eight, other=P)
        self.assert_error(OtherFields(), pairs_beside, one=P, other=eight)


class Whole(Case):
    def test_changed_texts_are_read_or_refused(self):
        for thing in changes(str(P)):
            try:
                self.assertEqual(str(Pair.read(thing)), thing)
            except BookError as error:
                self.assertTrue(type(error) is BadText and is_int(error.line))


if __name__ == "__main__":
    unittest.main()
