"""mirrorbook/books.py: [1.3] Books, [1.4] Checks (the papers for a word), [1.6] Stacks."""

import unittest
from random import Random

from mirrorbook.books import Book, is_word, judge_word, leads, made, stack_support, word_holds, words
from mirrorbook.errors import BadField, BadPlaces, BadRows, BadStack, BadWord, TooMany
from tests import brute
from tests.samples import GREAT, Case, any_values, is_int, is_letters, others, random_rows, sample_books, unit_rows

E = Book(2, 3, ((1, 1, 0), (0, 1, 1)))


def fits_row(q, n):
    return lambda thing: is_letters(q, thing) and len(thing) == n


class ReducedRows(Case):
    def assert_book(self, q, n, rows):
        book = Book(q, n, rows)
        listed = brute.span(q, n, rows)
        self.assert_same((book.q, book.n), (q, n))
        self.assert_same(book.rows, brute.reduced(q, n, listed))
        self.assert_same(book.dimension, brute.dimension(q, listed))

    def test_rows_against_all_words(self):
        for q, n, rows in sample_books(1, each=5):
            self.assert_book(q, n, rows)

    def test_more_places(self):
        random = Random(2)
        for q, n in ((2, 5), (2, 6), (2, 7), (2, 8), (3, 5), (3, 6), (4, 5), (5, 5)):
            for many in (2, 3, 4):
                self.assert_book(q, n, random_rows(random, q, n, many))

    def test_eight_places(self):
        for q in (2, 3, 4, 5):
            unit = unit_rows(8)
            mixed = tuple(tuple(0 if j < i else 1 + (i + j) % (q - 1) for j in range(8)) for i in range(8))
            self.assert_same(Book(q, 8, mixed).rows, unit)
            self.assert_same(Book(q, 8, tuple(reversed(mixed)) + unit).rows, unit)
            self.assert_same(Book(q, 8, mixed).dimension, 8)

    def test_no_rows_and_rows_of_zeros(self):
        for q in (2, 3, 4, 5):
            for n in range(1, 9):
                for rows in ((), ((0,) * n,), ((0,) * n,) * 16):
                    book = Book(q=q, n=n, rows=rows)
                    self.assert_same((book.rows, book.dimension), ((), 0))

    def test_sixteen_and_seventeen_rows(self):
        for q in (2, 3, 4, 5):
            row = (q - 1,) * 5
            self.assert_same(Book(q, 5, (row,) * 16).rows, ((1,) * 5,))
            self.assert_error(BadRows(-1), Book, q=q, n=5, rows=(row,) * 17)

    def test_arguments_stay(self):
        rows = ((0, 2, 1), (0, 0, 0), (2, 1, 1), (0, 2, 1))
        Book(3, 3, rows)
        self.assertEqual(rows, ((0, 2, 1), (0, 0, 0), (2, 1, 1), (0, 2, 1)))


class WrongBooks(Case):
    def test_field(self):
        for q in others(lambda thing: is_int(thing) and 2 <= thing <= 5):
            self.assert_error(BadField(q), Book, q=q, n=2, rows=((1, 1),))
            self.assert_error(BadField(q), Book, q=q, n=9, rows=None)

    def test_places(self):
        for n in others(lambda thing: is_int(thing) and 1 <= thing <= 8):
            self.assert_error(BadPlaces(n), Book, q=3, n=n, rows=())
            self.assert_error(BadPlaces(n), Book, q=3, n=n, rows=[n])

    def test_rows_that_are_no_tuple(self):
        for rows in others(lambda thing: type(thing) is tuple):
            self.assert_error(BadRows(-1), Book, q=2, n=2, rows=rows)
        self.assert_error(BadRows(-1), Book, q=2, n=2, rows=(None,) * 17)
        self.assert_error(BadRows(0), Book, q=2, n=2, rows=(None,) * 16)

    def test_the_first_row_that_is_none(self):
        for q in (2, 3, 4, 5):
            for thing in [(q, 0), (0, q), *others(fits_row(q, 2))]:
                self.assert_error(BadRows(0), Book, q=q, n=2, rows=(thing,))
                self.assert_error(BadRows(2), Book, q=q, n=2, rows=((1, 1), (0, 0), thing, thing))


class Equality(Case):
    def test_books_of_the_same_words(self):
        for n in (1, 2, 3):
            every = brute.all_words(2, n)
            books = [Book(2, n, (one, other)) for one in every for other in every]
            for one in books:
                for other in books:
                    alike = brute.span(2, n, one.rows) == brute.span(2, n, other.rows)
                    self.assertIs(one == other, alike)
                    self.assertIs(one != other, not alike)

    def test_other_fields_and_places(self):
        self.assertNotEqual(Book(2, 2, ()), Book(3, 2, ()))
        self.assertNotEqual(Book(2, 2, ()), Book(2, 3, ()))
        self.assertNotEqual(Book(4, 2, ((1, 1),)), Book(5, 2, ((1, 1),)))
        self.assertEqual(Book(5, 2, ((3, 1),)), Book(5, 2, ((1, 2), (2, 4))))

    def test_other_values(self):
        for thing in [E.rows, (2, 3, E.rows), str(E), *others(lambda thing: thing == E)]:
            self.assertIs(E == thing, False)
            self.assertIs(thing == E, False)
            self.assertIs(E != thing, True)
            self.assertIs(thing != E, True)


class WordsOfBooks(Case):
    def test_words_leads_and_amounts(self):
        for q, n, rows in sample_books(3, each=3):
            book = Book(q, n, rows)
            listed = brute.span(q, n, rows)
            self.assert_call(tuple(sorted(listed)), words, book=book)
            self.assert_call(tuple(brute.first(row) for row in book.rows), leads, book=book)
            made_words = []
            for amounts in brute.all_words(q, book.dimension):
                word = (0,) * n
                for amount, row in zip(amounts, book.rows):
                    word = brute.word_plus(q, word, brute.word_times(q, amount, row))
                self.assert_call(word, made, book=book, amounts=amounts)
                made_words.append(word)
            self.assertEqual(sorted(made_words), sorted(listed))

    def test_made_of_wrong_amounts(self):
        for q, k in ((2, 0), (2, 2), (3, 1), (4, 2), (5, 3)):
            book = Book(q, 3, unit_rows(3)[:k])
            for amounts in [(q,) * k or (0,), (0,) * (k + 1), *others(fits_row(q, k))]:
                self.assert_error(BadWord(amounts), made, book=book, amounts=amounts)

    def test_most(self):
        for q, n, rows in sample_books(4, most_places=3):
            book = Book(q, n, rows)
            many = q**book.dimension
            wanted = tuple(sorted(brute.span(q, n, rows)))
            self.assert_same(words(book, most=many), wanted)
            self.assert_same(words(book, most=many + 1), wanted)
            self.assert_same(words(book=book, most=GREAT), wanted)
            for most in (0, many // 2, many - 1):
                self.assert_raised(TooMany(most), lambda: words(book, most=most))
                self.assert_raised(TooMany(most), lambda: words(book=book, most=most))

    def test_most_by_name_only(self):
        with self.assertRaises(TypeError):
            words(E, 4096)

    def test_most_left_out(self):
        for q, k in ((2, 8), (3, 7), (4, 6), (5, 5)):
            unit = unit_rows(8)
            found = words(Book(q, 8, unit[8 - k :]))
            self.assertEqual(found, tuple((0,) * (8 - k) + word for word in brute.all_words(q, k)))
            if q > 2:
                self.assert_error(TooMany(4096), words, book=Book(q, 8, unit[7 - k :]))
        self.assert_raised(TooMany(4), lambda: words(Book(5, 8, unit), most=4))

    def test_is_word(self):
        for q, n, rows in sample_books(5, most_places=3):
            book = Book(q, n, rows)
            listed = brute.span(q, n, rows)
            for word in brute.all_words(q, n):
                self.assert_call(word in listed, is_word, book=book, thing=word)
            for thing in others(fits_row(q, n)):
                self.assert_call(False, is_word, book=book, thing=thing)
            self.assert_call(False, is_word, book=book, thing=(0,) * (n - 1) + (False,))
            self.assert_call(False, is_word, book=book, thing=[0] * n)
            self.assert_call(False, is_word, book=book, thing=(0,) * (n + 1))


class Papers(Case):
    def right_papers(self, q, n, rows, word):
        """All right papers for a word, and what both kinds could say."""
        amounts = brute.all_words(q, len(rows))
        made_by = [("made", some) for some in amounts if self.sum_of(q, n, some, rows) == word]
        failing = [check for check in brute.checks(q, n, rows) if brute.product_of(q, check, word) != 0]
        return made_by + [("fails", check) for check in failing]

    def sum_of(self, q, n, amounts, rows):
        total = (0,) * n
        for amount, row in zip(amounts, rows):
            total = brute.word_plus(q, total, brute.word_times(q, amount, row))
        return total

    def test_every_paper_that_there_can_be(self):
        for q, n, rows in sample_books(6, most_places=3, each=1):
            book = Book(q, n, rows)
            papers = [("made", some) for some in brute.all_words(q, book.dimension)]
            papers += [("fails", some) for some in brute.all_words(q, n)]
            for word in brute.all_words(q, n)[:: 1 + (q > 3)]:
                right = self.right_papers(q, n, book.rows, word)
                self.assertEqual(len({kind for kind, _ in right}), 1)
                self.assertIn(judge_word(book, word), right)
                for paper in papers:
                    self.assertIs(word_holds(book, word, paper), paper in right, (rows, word, paper))

    def test_by_position_and_by_name(self):
        self.assert_call(("made", (1, 1)), judge_word, book=E, word=(1, 1, 0))
        self.assert_call(("fails", (1, 1, 1)), judge_word, book=E, word=(1, 0, 0))
        self.assert_call(True, word_holds, book=E, word=(1, 1, 0), thing=("made", (1, 1)))
        self.assert_call(False, word_holds, book=E, word=(1, 0, 0), thing=("made", (1, 1)))

    def test_eight_places(self):
        random = Random(7)
        for q in (2, 3, 4, 5):
            book = Book(q, 8, random_rows(random, q, 8, 5))
            for _ in range(40):
                word = tuple(random.randrange(q) for _ in range(8))
                if random.randrange(2):
                    word = made(book, tuple(random.randrange(q) for _ in range(book.dimension)))
                kind, proof = paper = judge_word(book, word)
                self.assertTrue(word_holds(book, word, paper))
                self.assertEqual(kind == "made", is_word(book, word))
                if kind == "made":
                    self.assertEqual(self.sum_of(q, 8, proof, book.rows), word)
                else:
                    self.assertNotEqual(brute.product_of(q, proof, word), 0)
                    self.assertTrue(all(brute.product_of(q, proof, row) == 0 for row in book.rows))

    def test_papers_that_this_package_did_not_make(self):
        book = Book(5, 4, ((1, 2, 3, 4),))
        for check in ((3, 1, 0, 0), (1, 2, 0, 0), (2, 0, 1, 0), (1, 1, 1, 1), (0, 0, 0, 0)):
            right = brute.product_of(5, check, (1, 2, 3, 4)) == 0 and brute.product_of(5, check, (0, 1, 0, 0)) != 0
            self.assert_call(right, word_holds, book=book, word=(0, 1, 0, 0), thing=("fails", check))

    def test_papers_changed_in_one_place(self):
        for word, paper in (((1, 1, 0), ("made", (1, 1))), ((1, 0, 0), ("fails", (1, 1, 1)))):
            kind, proof = paper
            self.assertTrue(word_holds(E, word, paper))
            for thing in any_values():
                if thing != kind:
                    self.assert_call(False, word_holds, book=E, word=word, thing=(thing, proof))
                if not is_letters(2, thing) or thing != proof:
                    self.assert_call(False, word_holds, book=E, word=word, thing=(kind, thing))
                for at in range(len(proof)):
                    changed = proof[:at] + (thing,) + proof[at + 1 :]
                    if not (is_int(thing) and thing == 1):
                        self.assert_call(False, word_holds, book=E, word=word, thing=(kind, changed))
                self.assert_call(False, word_holds, book=E, word=word, thing=(kind, proof, thing))
                self.assert_call(False, word_holds, book=E, word=word, thing=(kind, proof + (thing,)))
                self.assert_call(False, word_holds, book=E, word=word, thing=thing)
            for thing in (list(paper), (kind,), (proof, kind), (kind, list(proof)), kind, proof, paper * 2):
                self.assert_call(False, word_holds, book=E, word=word, thing=thing)

    def test_papers_of_trivial_books(self):
        for q in (2, 3, 4, 5):
            none, every = Book(q, 1, ()), Book(q, 1, ((1,),))
            self.assert_call(True, word_holds, book=none, word=(0,), thing=("made", ()))
            self.assert_call(False, word_holds, book=none, word=(1,), thing=("made", ()))
            self.assert_call(True, word_holds, book=none, word=(1,), thing=("fails", (q - 1,)))
            self.assert_call(False, word_holds, book=every, word=(1,), thing=("fails", (1,)))
            self.assert_call(True, word_holds, book=every, word=(q - 1,), thing=("made", (q - 1,)))

    def test_wrong_words(self):
        for q in (2, 3, 4, 5):
            book = Book(q, 2, ((1, 1),))
            for word in [(q, 0), (0, q), *others(fits_row(q, 2))]:
                self.assert_error(BadWord(word), judge_word, book=book, word=word)
                self.assert_error(BadWord(word), word_holds, book=book, word=word, thing=("made", (0,)))
                self.assert_error(BadWord(word), word_holds, book=book, word=word, thing=word)


class Stacks(Case):
    def test_supports(self):
        random = Random(8)
        for q, n, rows in sample_books(9, most_places=4):
            book = Book(q, n, rows)
            listed = sorted(brute.span(q, n, rows))
            for many in range(5):
                stack = tuple(random.choice(listed) for _ in range(many))
                wanted = tuple(place for place in range(n) if any(word[place] for word in stack))
                self.assert_call(wanted, stack_support, book=book, stack=stack)

    def test_words_may_be_repeated(self):
        self.assert_call((0, 1), stack_support, book=E, stack=((1, 1, 0),) * 200)
        self.assert_call((), stack_support, book=E, stack=())
        self.assert_call((), stack_support, book=E, stack=((0, 0, 0),) * 3)

    def test_no_tuple(self):
        for stack in [list(E.rows), *others(lambda thing: type(thing) is tuple)]:
            self.assert_error(BadStack(-1), stack_support, book=E, stack=stack)

    def test_the_first_item_that_is_no_word(self):
        for thing in [(1, 0, 0), (1, 1, 1), (1, 1), (1, 1, 0, 0), (True, 1, 0), *any_values()]:
            self.assert_error(BadStack(0), stack_support, book=E, stack=(thing,))
            self.assert_error(BadStack(2), stack_support, book=E, stack=((1, 1, 0), (0, 0, 0), thing, (0, 1, 1), thing))


class Examples(Case):
    def test_worked_out_by_hand(self):
        self.assert_same(E.rows, ((1, 0, 1), (0, 1, 1)))
        self.assert_same(E.dimension, 2)
        self.assert_same(words(E), ((0, 0, 0), (0, 1, 1), (1, 0, 1), (1, 1, 0)))
        self.assert_same(judge_word(E, (1, 1, 0)), ("made", (1, 1)))
        self.assert_same(judge_word(E, (1, 0, 0)), ("fails", (1, 1, 1)))
        self.assert_same(Book(4, 3, ((2, 3, 1),)).rows, ((1, 2, 3),))
        self.assert_same(stack_support(E, ((1, 0, 1), (0, 0, 0), (1, 1, 0))), (0, 1, 2))


if __name__ == "__main__":
    unittest.main()
