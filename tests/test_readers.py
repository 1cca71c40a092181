"""mirrorbook/readers.py: [5.3] Readers, [5.6] The reader of a book, reduced readers."""

import unittest
from itertools import permutations, product
from random import Random

from mirrorbook.bookforms import mirror
from mirrorbook.books import Book
from mirrorbook.counts import weights_at
from mirrorbook.cuts import cuts, spans
from mirrorbook.errors import BadOrder, BadReader, TooMany
from mirrorbook.readers import (
    accepted,
    does_accept,
    is_reader,
    live_rooms,
    reader_of,
    reduced_reader,
    weights_along,
)
from mirrorbook.tables import table_of
from tests import brute, rankings, walking
from tests.samples import GREAT, Case, any_values, changes, is_letters, others, random_rows, same, unit_rows

PAIRS = Book(2, 4, ((1, 1, 0, 0), (0, 0, 1, 1)))
PAIRS_READER = (
    2,
    (1, 2, 1, 2, 1),
    (((0, 0, 0), (0, 1, 1)), ((0, 0, 0), (1, 1, 0)), ((0, 0, 0), (0, 1, 1)), ((0, 0, 0), (1, 1, 0))),
)
NOTHING = (2, (1, 2, 1), (((0, 0, 0), (0, 1, 0)), ((1, 0, 0), (1, 1, 0))))
NO_DOORS = (5, (1, 1), ((),))
BOOKS = [book for book, _ in rankings.book_tables()]


def great_books():
    """Books of five to eight places with an order in which they can be read."""
    random = Random(140)
    found = []
    some = ((2, 8, 4), (2, 8, 6), (2, 7, 3), (3, 6, 3), (3, 8, 3), (3, 8, 6), (4, 5, 3), (4, 6, 3), (5, 5, 2))
    for q, n, k in (*some, (5, 7, 2)):
        book = Book(q, n, random_rows(random, q, n, k))
        found.append((book, tuple(random.sample(range(n), n))))
    for q, n in ((2, 8), (3, 7), (4, 6), (5, 5)):
        order = tuple(random.sample(range(n), n))
        found += [(Book(q, n, ()), order), (Book(q, n, unit_rows(n)), order), (Book(q, n, ((q - 1,) * n,)), order)]
    return found


def books_and_orders():
    """Books with all orders of at most three places, or with some orders of more."""
    random = Random(141)
    found = []
    for book in BOOKS:
        orders = list(permutations(range(book.n)))
        found += [(book, order) for order in (orders if book.n < 4 else random.sample(orders, 4))]
    return found + great_books()


def sample_readers():
    """Readers of books, some of them changed, and readers of all kinds."""
    random = Random(142)
    found = [PAIRS_READER, walking.MIXED, NOTHING, NO_DOORS, walking.every_tuple(5, 3), walking.every_tuple(2, 8)]
    found += walking.random_readers(random, 150)
    for book in BOOKS:
        reader = reader_of(book, tuple(random.sample(range(book.n), book.n)))
        i = random.randrange(book.n)
        at = random.randrange(len(reader[2][i]))
        found += [reader, walking.without_door(reader, i, at), walking.with_rooms_exchanged(random, reader)]
        if i < book.n - 1:
            found.append(walking.with_copy(reader, i, at))
    return found


READERS = sample_readers()
WALKED = [(reader, walking.Walked(reader)) for reader in READERS]


def no_readers():
    """Values that are no readers, many of them nearly so."""
    near = [PAIRS_READER[:2], PAIRS_READER + (0,), list(PAIRS_READER), (6,) + PAIRS_READER[1:], (2, (1, 1), ((),) * 2)]
    return near + others(walking.fits)


class Forms(Case):
    def test_readers(self):
        for reader in READERS:
            self.assertTrue(walking.fits(reader))
            self.assert_call(True, is_reader, thing=reader)

    def test_any_values(self):
        for thing in no_readers():
            self.assert_call(False, is_reader, thing=thing)

    def test_changed_at_any_depth(self):
        for reader in (PAIRS_READER, walking.MIXED, NO_DOORS):
            kinds = {True: 0, False: 0}
            for thing in changes(reader):
                right = walking.fits(thing)
                self.assertIs(is_reader(thing), right, thing)
                kinds[right] += 1
            self.assertGreater(kinds[False], 300)
            self.assertGreater(kinds[True], 0)

    def test_letters(self):
        for q in range(-1, 8):
            for letter in range(-1, 7):
                wanted = 2 <= q <= 5 and 0 <= letter < q
                self.assert_call(wanted, is_reader, thing=(q, (1, 1), (((0, letter, 0),),)))
        for thing in (True, False, None, "0", (0,), [0]):
            self.assert_call(False, is_reader, thing=(2, (1, 1), (((0, thing, 0),),)))
            self.assert_call(False, is_reader, thing=(2, (1, 1), (((thing, 0, 0),),)))
            self.assert_call(False, is_reader, thing=(2, (1, 1), (((0, 0, thing),),)))

    def test_doors(self):
        right = ((0, 0, 0), (0, 1, 1), (0, 2, 1))
        for doors, wanted in (
            (right, True),
            ((), True),
            (right[::-1], False),
            (right[:1] * 2, False),
            (((0, 0, 0), (0, 0, 1)), False),
            (((0, 1, 0), (0, 0, 1)), False),
            (((0, 0, 2),), False),
            (((1, 0, 0),), False),
            (((0, 0, -1),), False),
            (((-1, 0, 0),), False),
            (((0, 0),), False),
            (((0, 0, 0, 0),), False),
            (([0, 0, 0],), False),
            (list(right), False),
            (None, False),
        ):
            self.assert_call(wanted, is_reader, thing=(3, (1, 2, 1), (doors, ())))
        for doors in (((0, 0, 0), (1, 0, 0)), ((0, 2, 0), (1, 0, 0)), ((0, 1, 0), (1, 1, 0))):
            self.assert_call(True, is_reader, thing=(3, (1, 2, 1), ((), doors)))

    def test_numbers_of_rooms(self):
        for many in (-1, 0, 1, 2, 63, 64, 65, GREAT):
            self.assert_call(1 <= many <= 64, is_reader, thing=(2, (1, many, 1), ((), ())))
            self.assert_call(many == 1, is_reader, thing=(2, (many, 1), ((),)))
            self.assert_call(many == 1, is_reader, thing=(2, (1, many), ((),)))
        for many in range(12):
            self.assert_call(2 <= many <= 9, is_reader, thing=(2, (1,) * many, ((),) * (many - 1)))
            self.assert_call(False, is_reader, thing=(2, (1,) * many, ((),) * many))
        for thing in (True, None, "1", (1,)):
            self.assert_call(False, is_reader, thing=(2, (1, thing, 1), ((), ())))
            self.assert_call(False, is_reader, thing=(2, (thing, 1), ((),)))
        self.assert_call(False, is_reader, thing=(2, [1, 1], ((),)))
        self.assert_call(False, is_reader, thing=(2, (1, 1), [()]))

    def test_many_rooms(self):
        wide = (2, (1, 2, 64, 1), ((), ((1, 1, 63),), ((0, 1, 0), (63, 0, 0))))
        self.assert_call(True, is_reader, thing=wide)
        self.assert_call(False, is_reader, thing=walking.with_doors(wide, 1, [(1, 1, 64)]))
        self.assert_call(False, is_reader, thing=walking.with_doors(wide, 2, [(64, 1, 0)]))


class Walks(Case):
    def test_what_is_accepted(self):
        for reader, walked in WALKED:
            self.assert_call(tuple(walked.accepted), accepted, reader=reader)
            if walked.q**walked.n < 700:
                for some in brute.all_words(walked.q, walked.n):
                    self.assertIs(does_accept(reader, some), some in walked.accepted)

    def test_any_values_are_not_accepted(self):
        for reader in (PAIRS_READER, walking.MIXED, NO_DOORS, walking.every_tuple(2, 2), walking.every_tuple(3, 1)):
            listed = walking.Walked(reader).accepted
            for some in [*listed[:3], *any_values()]:
                wanted = is_letters(5, some) and some in listed
                self.assert_call(wanted, does_accept, reader=reader, thing=some)
            for some in listed[:3]:
                changed = [some + (0,), some[:-1], list(some), (some,), tuple(map(bool, some)), some[:-1] + (-1,)]
                for thing in changed:
                    wanted = any(same(thing, one) for one in listed)
                    self.assert_call(wanted, does_accept, reader=reader, thing=thing)

    def test_most(self):
        for reader, walked in WALKED[::7]:
            many = len(walked.accepted)
            for most in (many, many + 1, GREAT):
                self.assert_same(accepted(reader, most=most), tuple(walked.accepted))
                self.assert_same(accepted(reader=reader, most=most), tuple(walked.accepted))
            for most in {0, many // 2, many - 1} - {-1, many}:
                self.assert_raised(TooMany(most), lambda: accepted(reader, most=most))
                self.assert_raised(TooMany(most), lambda: accepted(reader=reader, most=most))

    def test_most_left_out(self):
        for q, n in ((2, 8), (4, 6), (3, 7), (5, 5)):
            self.assertEqual(accepted(walking.every_tuple(q, n)), tuple(product(range(q), repeat=n)))
        for q, n in ((3, 8), (4, 7), (4, 8), (5, 6), (5, 8)):
            self.assert_error(TooMany(4096), accepted, reader=walking.every_tuple(q, n))

    def test_very_many(self):
        reader = walking.every_tuple(5, 8)
        self.assert_raised(TooMany(5**8 - 1), lambda: accepted(reader, most=5**8 - 1))
        self.assertEqual(sum(weights_along(reader)), 5**8)
        found = accepted(walking.every_tuple(5, 6), most=5**6)
        self.assertEqual(found, tuple(product(range(5), repeat=6)))

    def test_few_behind_rooms_with_many_tails(self):
        """Rooms that are not live cost nothing, however many tails they have."""
        wide = tuple((room, letter, (room + letter) % 64) for room in range(64) for letter in range(5))
        last = tuple((room, letter, 0) for room in range(64) for letter in range(5))
        reader = (5, (1,) + (64,) * 7 + (1,), ((),) + (wide,) * 6 + (last,))
        self.assert_call((), accepted, reader=reader)
        self.assert_call(((),) * 9, live_rooms, reader=reader)
        self.assert_call(None, reduced_reader, reader=reader)
        self.assert_call((0,) * 9, weights_along, reader=reader)

    def test_most_by_name_only(self):
        with self.assertRaises(TypeError):
            accepted(PAIRS_READER, 4096)

    def test_live_rooms(self):
        kinds = set()
        for reader, walked in WALKED:
            self.assert_call(walked.live, live_rooms, reader=reader)
            kinds.add(walked.live == tuple(tuple(range(many)) for many in walked.rooms))
        self.assertEqual(kinds, {True, False})

    def test_weights(self):
        for reader, walked in WALKED:
            self.assert_call(walked.weights(), weights_along, reader=reader)
        for book, order in books_and_orders():
            wanted = weights_at(table_of(book), book.q)
            self.assert_call(wanted, weights_along, reader=reader_of(book, order))

    def test_wrong_readers(self):
        for thing in no_readers():
            for call in (accepted, live_rooms, weights_along, reduced_reader):
                self.assert_error(BadReader(thing), call, reader=thing)
            self.assert_error(BadReader(thing), does_accept, reader=thing, thing=(0,))
            self.assert_error(BadReader(thing), does_accept, reader=thing, thing=thing)
            self.assert_raised(BadReader(thing), lambda: accepted(thing, most=0))


class Reduced(Case):
    def test_least_and_in_line(self):
        kinds = set()
        for reader, walked in WALKED:
            found = reduced_reader(reader)
            self.assert_call(found, reduced_reader, reader=reader)
            if not walked.accepted:
                self.assertIsNone(found)
            else:
                self.assertTrue(walking.fits(found))
                other = walking.Walked(found)
                self.assertEqual(other.accepted, walked.accepted)
                self.assertTrue(other.is_least() and other.is_in_line())
                self.assertTrue(all(few <= many for few, many in zip(other.rooms, walked.rooms)))
            kinds.add((found is None, found == reader, walked.is_least()))
        wanted = {(True, False, False), (False, False, False), (False, False, True), (False, True, True)}
        self.assertEqual(kinds, wanted)

    def test_just_one(self):
        """Readers of the same tuples have the same reduced reader, which is its own."""
        random = Random(143)
        for reader, walked in WALKED:
            found = reduced_reader(reader)
            self.assertEqual(reduced_reader(walking.with_rooms_exchanged(random, reader)), found)
            if found is not None:
                self.assertEqual(reduced_reader(found), found)
                self.assertEqual(reduced_reader(self.of_all(walked)), found)

    def of_all(self, walked):
        """A reader of the same tuples, with a room of its own for each head, if these are few."""
        heads = [sorted({some[:i] for some in walked.accepted}) for i in range(walked.n)] + [[()]]
        if max(map(len, heads)) > 64:
            return (walked.q, walked.rooms, walked.doors)
        doors = [set() for _ in range(walked.n)]
        for some in walked.accepted:
            for i in range(walked.n):
                behind = heads[i + 1].index(some[: i + 1]) if i + 1 < walked.n else 0
                doors[i].add((heads[i].index(some[:i]), some[i], behind))
        return (walked.q, tuple(map(len, heads)), tuple(tuple(sorted(layer)) for layer in doors))

    def test_trivial_readers(self):
        self.assert_call(None, reduced_reader, reader=NOTHING)
        self.assert_call(None, reduced_reader, reader=NO_DOORS)
        self.assert_call(walking.every_tuple(3, 8), reduced_reader, reader=walking.every_tuple(3, 8))
        # Of the three rooms in layer 2 one has no tails, the others have the same; so have the rooms before these.
        merged = (3, (1, 1, 1, 1), (((0, 0, 0), (0, 1, 0)), ((0, 0, 0),), ((0, 2, 0),)))
        self.assert_call(merged, reduced_reader, reader=walking.MIXED)


class ReadersOfBooks(Case):
    def test_just_the_words(self):
        for book, order in books_and_orders():
            reader = reader_of(book, order)
            self.assert_call(reader, reader_of, book=book, order=order)
            self.assertTrue(walking.fits(reader))
            walked = walking.Walked(reader)
            read = walking.Read(book, order) if book.q**book.n < 2000 else None
            wanted = read.in_order if read else self.listed(book, order)
            self.assertEqual(walked.accepted, wanted)
            self.assertTrue(walked.is_least() and walked.is_in_line())
            self.assertEqual(reduced_reader(reader), reader)

    def listed(self, book, order):
        words = brute.span(book.q, book.n, book.rows)
        return sorted(tuple(word[place] for place in order) for word in words)

    def test_numbers_of_rooms_and_doors(self):
        for book, order in books_and_orders():
            table = table_of(book)
            _, rooms, doors = reader_of(book, order)
            pairs = spans(table, order)
            self.assertEqual(rooms, tuple(book.q**cut for cut in cuts(table, order)))
            for i, layer in enumerate(doors):
                self.assertEqual(len(layer), book.q ** sum(1 for a, b in pairs if a <= i <= b))
                starts = i in [a for a, _ in pairs]
                for room in range(rooms[i]):
                    self.assertEqual(len([door for door in layer if door[0] == room]), book.q if starts else 1)

    def test_readers_of_mirrors(self):
        for book, order in books_and_orders():
            self.assertEqual(reader_of(mirror(book), order)[1], reader_of(book, order)[1])

    def test_a_reader_with_these_numbers_is_least(self):
        random = Random(144)
        for book, order in books_and_orders()[::3]:
            walked = walking.Walked(walking.with_rooms_exchanged(random, reader_of(book, order)))
            self.assertTrue(walked.is_least())

    def test_greatest_numbers_of_rooms(self):
        """Sixty-four rooms in a layer, and more than the limit."""
        rows = tuple(left + right for left, right in zip(unit_rows(3), unit_rows(3)))
        reader = reader_of(Book(4, 6, rows), (0, 1, 2, 3, 4, 5))
        self.assertEqual(reader[1], (1, 4, 16, 64, 16, 4, 1))
        self.assertTrue(is_reader(reader))
        self.assertEqual(len(accepted(reader)), 64)
        beyond = reader_of(Book(5, 6, rows), (0, 1, 2, 3, 4, 5))
        self.assertEqual(beyond[1], (1, 5, 25, 125, 25, 5, 1))
        self.assertFalse(is_reader(beyond))

    def test_wrong_orders(self):
        for n in (1, 3, 8):
            book = Book(3, n, ((1,) * n,))
            wrong = others(lambda thing: is_letters(n, thing) and sorted(thing) == list(range(n)))
            for order in [tuple(range(n + 1)), tuple(range(n - 1)), (0,) * n + (n,), list(range(n)), *wrong]:
                self.assert_error(BadOrder(order), reader_of, book=book, order=order)


class Examples(Case):
    def test_worked_out_by_hand(self):
        self.assert_call(PAIRS_READER, reader_of, book=PAIRS, order=(0, 1, 2, 3))
        self.assert_same(weights_along(PAIRS_READER), (1, 0, 2, 0, 1))


if __name__ == "__main__":
    unittest.main()
