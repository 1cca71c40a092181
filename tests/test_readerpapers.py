"""mirrorbook/readers.py: [5.4] Reading a book, [5.5] Least readers."""

import unittest
from itertools import combinations
from random import Random

from mirrorbook.books import Book
from mirrorbook.errors import BadOrder, BadReader, OtherFields, OtherPlaces
from mirrorbook.readers import judge_least, judge_reader, least_holds, reader_holds, reader_of, reduced_reader
from tests import brute, rankings, walking
from tests.samples import Case, any_values, changes, is_int, is_letters, others, random_rows, unit_rows

PAIRS = Book(2, 4, ((1, 1, 0, 0), (0, 0, 1, 1)))
LINE = (0, 1, 2, 3)
PAIRS_READER = reader_of(PAIRS, LINE)
TERNARY = Book(3, 3, ((1, 2, 0), (0, 0, 1)))
FIVES = Book(5, 2, ((1, 3),))
NO_DOORS = (2, (1, 1), ((),))


def sample_books():
    """Books of one to four places, and some of more, each with an order."""
    random = Random(160)
    books = [book for book, _ in rankings.book_tables()]
    for q, n, k in ((2, 5, 3), (2, 6, 3), (2, 8, 3), (3, 5, 2), (4, 4, 2), (5, 4, 2)):
        books.append(Book(q, n, random_rows(random, q, n, k)))
    return [(book, tuple(random.sample(range(book.n), book.n))) for book in books]


def readers_for(random, book, order):
    """Readers of the book, in line or not, least or not, with rooms that are not live; and readers of other words."""
    reader = reader_of(book, order)
    found = [reader, walking.with_rooms_exchanged(random, reader)]
    found.append(reader_of(Book(book.q, book.n, random_rows(random, book.q, book.n, 2)), order))
    found.append(reader_of(book, order[::-1]))
    found.append(walking.random_reader(random, book.q, book.n, 3, 70))
    for _ in range(3):
        i = random.randrange(book.n)
        at = random.randrange(len(reader[2][i]))
        found.append(walking.without_door(reader, i, at))
        found.append(walking.with_letter(reader, i, at, random.randrange(book.q)))
        if i < book.n - 1:
            copied = walking.with_copy(reader, i, at)
            found += [copied, walking.with_rooms_exchanged(random, copied), with_dead_rooms(copied, i)]
    return [one for one in found if one is not None]


def with_dead_rooms(reader, i):
    """The reader with one more room behind layer i that no door leads to, and one more without doors."""
    q, rooms, doors = reader
    more = (q, rooms[: i + 1] + (rooms[i + 1] + 2,) + rooms[i + 2 :], doors)
    if i + 2 < len(rooms):
        return walking.with_doors(more, i + 1, [*doors[i + 1], (rooms[i + 1], 0, 0)])
    return None


SAMPLES = sample_books()


def read_all():
    random = Random(161)
    found = []
    for book, order in SAMPLES:
        for reader in readers_for(random, book, order):
            found.append((book, order, reader, walking.Read(book, order), walking.Walked(reader)))
    return found


READ = read_all()
LEAST = [(reader, walked) for _, _, reader, _, walked in READ]
LEAST += [(reader, walking.Walked(reader)) for reader in walking.random_readers(Random(162), 200)]


class Reading(Case):
    def test_just_one_kind(self):
        kinds = set()
        for book, order, reader, read, walked in READ:
            paper = judge_reader(book, order, reader)
            alike = walked.accepted == read.in_order
            self.assert_same(paper[0], "same" if alike else "differs")
            self.assertTrue(read.is_paper(walked, paper), (book.rows, order, reader, paper))
            self.assertIs(reader_holds(book, order, reader, paper), True)
            more = len(set(walked.accepted) - set(read.in_order)) > 0
            less = len(set(read.in_order) - set(walked.accepted)) > 0
            kinds.add((more, less))
        self.assertEqual(kinds, {(more, less) for more in (True, False) for less in (True, False)})

    def test_by_position_and_by_name(self):
        for book, order, reader, _, _ in READ[::9]:
            paper = judge_reader(book, order, reader)
            self.assert_call(paper, judge_reader, book=book, order=order, reader=reader)
            self.assert_call(True, reader_holds, book=book, order=order, reader=reader, thing=paper)
            self.assert_call(False, reader_holds, book=book, order=order, reader=reader, thing=paper[::-1])

    def test_all_words_in_which_they_could_differ(self):
        for book, order, reader, read, walked in READ[::2]:
            if book.q**book.n < 300:
                for word in brute.all_words(book.q, book.n):
                    right = read.is_paper(walked, ("differs", word))
                    self.assertIs(reader_holds(book, order, reader, ("differs", word)), right)

    def test_marks_of_other_readers(self):
        """Marks are right for their own reader alone, also if other ones have as many rooms."""
        papers = [judge_reader(book, order, reader) for book, order, reader, _, _ in READ]
        for at, (book, order, reader, read, walked) in enumerate(READ):
            for paper in papers[max(0, at - 4) : at + 5]:
                self.assertIs(reader_holds(book, order, reader, paper), read.is_paper(walked, paper))

    def test_marks_with_too_few_words(self):
        """Right marks are not enough: as many tuples must be accepted as the book has words."""
        kinds = set()
        for book, order in SAMPLES:
            reader = reader_of(book, order)
            marks = judge_reader(book, order, reader)[1]
            for i, layer in enumerate(reader[2]):
                for at in range(len(layer)):
                    less = walking.without_door(reader, i, at)
                    walked = walking.Walked(less)
                    fitting = tuple(
                        tuple(mark if room in walked.live[j] else None for room, mark in enumerate(row))
                        for j, row in enumerate(marks)
                    )
                    self.assertFalse(walking.Read(book, order).is_paper(walked, ("same", fitting)))
                    self.assertIs(reader_holds(book, order, less, ("same", fitting)), False)
                    kinds.add(walked.accepted == [])
        self.assertEqual(kinds, {True, False})

    def test_marks_of_rooms_that_are_not_live(self):
        book, order = TERNARY, (2, 0, 1)
        reader = with_dead_rooms(walking.with_copy(reader_of(book, order), 1, 0), 1)
        kind, marks = judge_reader(book, order, reader)
        self.assertEqual(kind, "same")
        self.assertEqual(marks[2][-2:], (None, None))
        self.assert_changed_marks(book, order, reader, marks)

    def test_marks_changed_in_one_place(self):
        for book, order in ((PAIRS, LINE), (PAIRS, (0, 2, 1, 3)), (TERNARY, (1, 2, 0)), (FIVES, (1, 0))):
            reader = reader_of(book, order)
            kind, marks = judge_reader(book, order, reader)
            self.assertEqual(kind, "same")
            self.assert_changed_marks(book, order, reader, marks)

    def assert_changed_marks(self, book, order, reader, marks):
        read, walked = walking.Read(book, order), walking.Walked(reader)
        q, length = book.q, len(read.checks)
        for i, row in enumerate(marks):
            for room in range(len(row)):
                for mark in [None, *brute.all_words(q, length)]:
                    changed = marks[:i] + (row[:room] + (mark,) + row[room + 1 :],) + marks[i + 1 :]
                    right = read.is_paper(walked, ("same", changed))
                    self.assertEqual(right, changed == marks)
                    self.assertIs(reader_holds(book, order, reader, ("same", changed)), right)

    def test_marks_shifted_together(self):
        """Marks of one layer can all be wrong in the same way; then the doors to them tell."""
        for book, order in SAMPLES[::3]:
            reader = reader_of(book, order)
            marks = judge_reader(book, order, reader)[1]
            checks = len(marks[0][0])
            for i, row in enumerate(marks):
                for shift in brute.all_words(book.q, checks)[1:20]:
                    moved = tuple(brute.word_plus(book.q, mark, shift) for mark in row)
                    paper = ("same", marks[:i] + (moved,) + marks[i + 1 :])
                    self.assert_call(False, reader_holds, book=book, order=order, reader=reader, thing=paper)

    def test_as_many_words_of_another_kind(self):
        """Readers of all words of a book with a letter added at one place; all marks fit but the first or the last."""
        kinds = set()
        for book, order in SAMPLES:
            reader = reader_of(book, order)
            marks = judge_reader(book, order, reader)[1]
            read = walking.Read(book, order)
            for i in range(book.n):
                added = [brute.plus(book.q, x, 1) for x in range(book.q)]
                moved = walking.with_letters_exchanged(reader, i, added)
                shift = tuple(check[order[i]] for check in read.checks)
                back = tuple(brute.minus(book.q, letter) for letter in shift)
                ahead = tuple(tuple(brute.word_plus(book.q, mark, back) for mark in row) for row in marks[: i + 1])
                behind = tuple(tuple(brute.word_plus(book.q, mark, shift) for mark in row) for row in marks[i + 1 :])
                for some in (ahead + marks[i + 1 :], marks[: i + 1] + behind):
                    right = read.is_paper(walking.Walked(moved), ("same", some))
                    self.assertEqual(right, not any(shift))
                    self.assertIs(reader_holds(book, order, moved, ("same", some)), right)
                    kinds.add(right)
        self.assertEqual(kinds, {True, False})

    def test_papers_changed_in_one_place(self):
        other = walking.without_door(PAIRS_READER, 0, 1)
        mirrored = Book(3, 3, ((1, 1, 0),))
        for book, order, reader in (
            (PAIRS, LINE, PAIRS_READER),
            (PAIRS, LINE, other),
            (TERNARY, (1, 2, 0), reader_of(TERNARY, (1, 2, 0))),
            (TERNARY, (1, 2, 0), reader_of(mirrored, (1, 2, 0))),
            (Book(2, 2, unit_rows(2)), (1, 0), walking.every_tuple(2, 2)),
        ):
            read, walked = walking.Read(book, order), walking.Walked(reader)
            paper = judge_reader(book, order, reader)
            for thing in changes(paper):
                right = read.is_paper(walked, thing)
                self.assertIs(reader_holds(book, order, reader, thing), right, thing)

    def test_other_values(self):
        for book, order, reader in ((PAIRS, LINE, PAIRS_READER), (TERNARY, (2, 1, 0), reader_of(TERNARY, (0, 1, 2)))):
            for thing in any_values():
                rows = (thing,) * (book.n + 1)
                for paper in (thing, ("same", thing), ("differs", thing), ("same", rows), ("same", (), thing)):
                    wanted = walking.Read(book, order).is_paper(walking.Walked(reader), paper)
                    self.assert_call(wanted, reader_holds, book=book, order=order, reader=reader, thing=paper)

    def test_rows_that_are_no_tuples(self):
        kind, marks = judge_reader(PAIRS, LINE, PAIRS_READER)
        for i in range(5):
            for row in (list(marks[i]), None, "0", 3, {0: (0, 0)}):
                for rows in (marks[:i] + (row,) + marks[i + 1 :], marks[:i] + (row,) + marks[i:]):
                    paper = (kind, rows)
                    self.assert_call(False, reader_holds, book=PAIRS, order=LINE, reader=PAIRS_READER, thing=paper)

    def test_books_of_no_words_and_of_all(self):
        for q in (2, 3, 4, 5):
            for n in (1, 2, 3):
                order = tuple(range(n))[::-1]
                none, every = Book(q, n, ()), Book(q, n, unit_rows(n))
                marks = ((((0,) * n),),) * (n + 1)
                self.assert_call(("same", marks), judge_reader, book=none, order=order, reader=reader_of(none, order))
                reader = walking.every_tuple(q, n)
                self.assert_call(("same", (((),),) * (n + 1)), judge_reader, book=every, order=order, reader=reader)
                self.assertEqual(judge_reader(none, order, reader)[0], "differs")

    def test_a_reader_that_accepts_nothing(self):
        for book, order in SAMPLES:
            reader = (book.q, (1,) * (book.n + 1), ((),) * book.n)
            kind, word = judge_reader(book, order, reader)
            self.assertEqual(kind, "differs")
            self.assertIn(word, brute.span(book.q, book.n, book.rows))
            for marks in (((None,),) * (book.n + 1), (((0,) * (book.n - book.dimension),),) * (book.n + 1)):
                self.assert_call(False, reader_holds, book=book, order=order, reader=reader, thing=("same", marks))


class Least(Case):
    def test_just_one_kind(self):
        kinds = set()
        for reader, walked in LEAST:
            paper = judge_least(reader)
            self.assert_call(paper, judge_least, reader=reader)
            self.assert_same(paper[0], "least" if walked.is_least() else "spare")
            self.assertTrue(walked.is_least_paper(paper), (reader, paper))
            self.assert_call(True, least_holds, reader=reader, thing=paper)
            kinds.add((paper[0], len(paper[2]) if paper[0] == "spare" else 0))
        self.assertEqual(kinds, {("least", 0), ("spare", 1), ("spare", 2)})

    def test_any_spare_rooms(self):
        for reader, walked in LEAST[::3] + [(walking.MIXED, walking.Walked(walking.MIXED))]:
            for layer in range(-1, walked.n + 2):
                rooms = range(walked.rooms[layer] + 1) if 0 <= layer <= walked.n else range(2)
                for some in [(), *((room,) for room in rooms), *combinations(rooms, 2), (1, 0), (0, 0), (0, 1, 2)]:
                    paper = ("spare", layer, some)
                    self.assertIs(least_holds(reader, paper), walked.is_least_paper(paper), (reader, paper))

    def test_other_heads_and_tails(self):
        random = Random(163)
        kinds = set()
        for reader, walked in LEAST:
            if walked.is_least():
                for share in (1, 2, 3):
                    paper = ("least", self.some_heads(random, walked), self.some_tails(random, walked, share))
                    right = walked.is_least_paper(paper)
                    self.assertIs(least_holds(reader, paper), right, (reader, paper))
                    kinds.add((right, share))
        self.assertLessEqual({(True, 1), (True, 2), (False, 2)}, kinds)

    def some_heads(self, random, walked):
        return tuple(
            tuple(random.choice(sorted(walked.heads_of(i, room))) for room in range(many))
            for i, many in enumerate(walked.rooms)
        )

    def some_tails(self, random, walked, share):
        """About such a share of all tails of a layer, some of them twice, and other letters that are no tails."""
        found = []
        for i, many in enumerate(walked.rooms):
            every = sorted({tail for room in range(many) for tail in walked.tails_of(i, room)})
            some = [tail for tail in every if random.randrange(share) == 0] or every
            some += [random.choice(some), tuple(random.randrange(walked.q) for _ in range(walked.n - i))]
            found.append(tuple(random.sample(some, len(some))))
        return tuple(found)

    def test_heads_of_other_rooms(self):
        for reader, walked in LEAST[::5]:
            if walked.is_least():
                _, heads, tails = judge_least(reader)
                for i, row in enumerate(heads):
                    for room in range(len(row)):
                        for head in brute.all_words(walked.q, i)[:40]:
                            changed = heads[:i] + (row[:room] + (head,) + row[room + 1 :],) + heads[i + 1 :]
                            right = head in walked.heads_of(i, room)
                            self.assertIs(least_holds(reader, ("least", changed, tails)), right)

    def test_tails_left_out(self):
        kinds = set()
        for reader, walked in LEAST[::3]:
            if walked.is_least():
                _, heads, tails = judge_least(reader)
                for i, row in enumerate(tails):
                    for at in range(len(row)):
                        paper = ("least", heads, tails[:i] + (row[:at] + row[at + 1 :],) + tails[i + 1 :])
                        right = walked.is_least_paper(paper)
                        self.assertIs(least_holds(reader, paper), right)
                        kinds.add(right)
        self.assertIn(False, kinds)

    def test_papers_changed_in_one_place(self):
        ternary = reduced_reader((3, (1, 2, 1), (((0, 0, 0), (0, 2, 1)), ((0, 1, 0), (1, 1, 0), (1, 2, 0)))))
        pair = reader_of(Book(2, 2, ((1, 1),)), (0, 1))
        for reader in (pair, ternary, walking.MIXED, walking.every_tuple(4, 1), NO_DOORS):
            walked = walking.Walked(reader)
            for thing in changes(judge_least(reader)):
                right = walked.is_least_paper(thing)
                self.assertIs(least_holds(reader, thing), right, (reader, thing))

    def test_spare_papers_changed_in_one_place(self):
        walked = walking.Walked(walking.MIXED)
        for paper in (("spare", 1, (2,)), ("spare", 1, (0, 1)), ("spare", 2, (0, 1)), ("spare", 2, (2,))):
            self.assert_call(True, least_holds, reader=walking.MIXED, thing=paper)
            for thing in changes(paper):
                self.assertIs(least_holds(walking.MIXED, thing), walked.is_least_paper(thing), thing)

    def test_two_rooms_that_are_not_live(self):
        reader = (2, (1, 3, 1), (((0, 0, 0),), ((0, 0, 0),)))
        for some, wanted in (((1,), True), ((2,), True), ((1, 2), False), ((0, 1), False), ((0,), False), ((), False)):
            self.assert_call(wanted, least_holds, reader=reader, thing=("spare", 1, some))

    def test_other_values(self):
        for reader in (PAIRS_READER, walking.MIXED):
            for thing in any_values():
                rows = (thing,) * len(reader[1])
                for paper in (
                    thing,
                    ("least", thing, thing),
                    ("least", rows, rows),
                    ("spare", thing, thing),
                    ("spare", thing, (True,)),
                    ("least", rows),
                ):
                    self.assert_call(False, least_holds, reader=reader, thing=paper)

    def test_rows_that_are_no_tuples(self):
        kind, heads, tails = judge_least(PAIRS_READER)
        for i in range(5):
            for row in (list(heads[i]), list(tails[i]), None, "0", 3):
                for wrong in ((row,), (row, heads[i]), (row, tails[i])):
                    paper = (kind, heads[:i] + wrong + heads[i + 1 :], tails)
                    self.assert_call(False, least_holds, reader=PAIRS_READER, thing=paper)
                    paper = (kind, heads, tails[:i] + wrong + tails[i + 1 :])
                    self.assert_call(False, least_holds, reader=PAIRS_READER, thing=paper)

    def test_least_by_the_numbers_of_rooms(self):
        """A reader of just the words is least exactly if it has as many rooms as the reader of the book."""
        kinds = set()
        for book, order, reader, read, walked in READ:
            if walked.accepted == read.in_order:
                wanted = walked.rooms == reader_of(book, order)[1]
                self.assertEqual(judge_least(reader)[0] == "least", wanted)
                kinds.add(wanted)
        self.assertEqual(kinds, {True, False})

    def test_many_rooms(self):
        random = Random(164)
        greatest = 0
        for q, n in ((2, 8), (3, 7), (4, 6), (5, 5)):
            for share in (60, 80, 95):
                reader = walking.random_reader(random, q, n, 64, share)
                for one in (reader, reduced_reader(reader)):
                    if one is not None:
                        paper = judge_least(one)
                        self.assertTrue(walking.Walked(one).is_least_paper(paper))
                        self.assertIs(least_holds(one, paper), True)
                        greatest = max(greatest, *one[1]) if paper[0] == "least" else greatest
        self.assertGreater(greatest, 20)


class WrongArguments(Case):
    def test_errors_in_their_order(self):
        readers = [PAIRS_READER[:2], list(PAIRS_READER), *others(walking.fits)]
        orders = [(0, 1, 2), (0, 1, 2, 3, 3), list(LINE), *others(lambda thing: self.is_order(4, thing))]
        self.assert_errors(judge_least, {"reader": PAIRS_READER}, (("reader", BadReader, readers),))
        self.assert_errors(least_holds, {"reader": PAIRS_READER, "thing": ()}, (("reader", BadReader, readers),))
        for call, more in ((judge_reader, {}), (reader_holds, {"thing": ("differs", (0, 0, 0, 0))})):
            given = {"book": PAIRS, "order": LINE, "reader": PAIRS_READER, **more}
            self.assert_errors(call, given, (("reader", BadReader, readers), ("order", BadOrder, orders)))
            for book in (TERNARY, Book(3, 4, ()), Book(5, 1, ())):
                self.assert_errors(call, {**given, "book": book}, (("reader", BadReader, readers),))
                for order in orders + [LINE]:
                    self.assert_error(OtherFields(), call, **{**given, "book": book, "order": order})
            for n in (1, 3, 5, 8):
                for order in orders + [LINE, tuple(range(n))]:
                    self.assert_error(OtherPlaces(), call, **{**given, "book": Book(2, n, ()), "order": order})

    def is_order(self, n, thing):
        return is_letters(n, thing) and sorted(thing) == list(range(n)) and all(map(is_int, thing))


class Examples(Case):
    def test_worked_out_by_hand(self):
        marks = (((0, 0),), ((0, 0), (1, 0)), ((0, 0),), ((0, 0), (0, 1)), ((0, 0),))
        self.assert_call(("same", marks), judge_reader, book=PAIRS, order=LINE, reader=PAIRS_READER)
        self.assert_call(True, reader_holds, book=PAIRS, order=LINE, reader=PAIRS_READER, thing=("same", marks))


if __name__ == "__main__":
    unittest.main()
