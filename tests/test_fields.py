"""mirrorbook/fields.py: [1.1] Fields, [1.2] Words."""

import unittest
from random import Random

from mirrorbook import fields
from mirrorbook.errors import BadField, BadLetter, BadWord
from tests import brute
from tests.samples import Case, any_values, is_int, is_letters, others

TWO_LETTERS = (fields.add, fields.subtract, fields.times)
TWO_WORDS = (fields.word_sum, fields.product)
ONE_WORD = (fields.support, fields.weight)


def fits_field(thing):
    return is_int(thing) and thing in (2, 3, 4, 5)


def fits_letter(q):
    return lambda thing: is_int(thing) and 0 <= thing < q


def fits_word(q):
    return lambda thing: is_letters(q, thing)


class Letters(Case):
    def test_is_letter(self):
        for q in (2, 3, 4, 5):
            for letter in range(q):
                self.assert_call(True, fields.is_letter, q=q, thing=letter)
            for thing in [q, q + 1, *others(fits_letter(q))]:
                self.assert_call(False, fields.is_letter, q=q, thing=thing)

    def test_sums_and_products_of_three_and_five(self):
        for q in (2, 3, 5):
            for one in range(q):
                for other in range(q):
                    self.assert_call((one + other) % q, fields.add, q=q, one=one, other=other)
                    self.assert_call((one - other) % q, fields.subtract, q=q, one=one, other=other)
                    self.assert_call((one * other) % q, fields.times, q=q, one=one, other=other)

    def test_sums_and_products_of_four(self):
        for one in range(4):
            for other in range(4):
                self.assert_call(brute.FOUR_SUM[one][other], fields.add, q=4, one=one, other=other)
                self.assert_call(brute.FOUR_SUM[one][other], fields.subtract, q=4, one=one, other=other)
                self.assert_call(brute.FOUR_TIMES[one][other], fields.times, q=4, one=one, other=other)

    def test_difference_is_undone_by_the_sum(self):
        for q in (2, 3, 4, 5):
            for one in range(q):
                for other in range(q):
                    self.assertEqual(fields.add(q, fields.subtract(q, one, other), other), one)

    def test_inverse(self):
        wanted = {2: (1,), 3: (1, 2), 4: (1, 3, 2), 5: (1, 3, 2, 4)}
        for q in (2, 3, 4, 5):
            for letter in range(1, q):
                self.assert_call(wanted[q][letter - 1], fields.inverse, q=q, letter=letter)
            self.assert_error(BadLetter(0), fields.inverse, q=q, letter=0)


class Words(Case):
    def test_sums_and_products_of_words(self):
        random = Random(11)
        for q in (2, 3, 4, 5):
            for size in range(17):
                one = tuple(random.randrange(q) for _ in range(size))
                other = tuple(random.randrange(q) for _ in range(size))
                self.assert_call(brute.word_plus(q, one, other), fields.word_sum, q=q, one=one, other=other)
                self.assert_call(brute.product_of(q, one, other), fields.product, q=q, one=one, other=other)
                for letter in range(q):
                    wanted = brute.word_times(q, letter, one)
                    self.assert_call(wanted, fields.word_times, q=q, letter=letter, word=one)

    def test_support_and_weight(self):
        for q in (2, 3, 4, 5):
            for word in brute.all_words(q, 3):
                places = tuple(place for place in range(3) if word[place] != 0)
                self.assert_call(places, fields.support, q=q, word=word)
                self.assert_call(len(places), fields.weight, q=q, word=word)

    def test_words_without_letters(self):
        for q in (2, 3, 4, 5):
            self.assert_call((), fields.word_sum, q=q, one=(), other=())
            self.assert_call((), fields.word_times, q=q, letter=1, word=())
            self.assert_call(0, fields.product, q=q, one=(), other=())
            self.assert_call((), fields.support, q=q, word=())
            self.assert_call(0, fields.weight, q=q, word=())

    def test_words_of_unlike_lengths(self):
        for call in TWO_WORDS:
            for one, other in (((), (0,)), ((1,), ()), ((1, 0), (1, 0, 0)), ((1, 0, 0), (1, 0))):
                self.assert_error(BadWord(other), call, q=2, one=one, other=other)


class WrongArguments(Case):
    def test_field(self):
        for q in others(fits_field):
            self.assert_error(BadField(q), fields.is_letter, q=q, thing=0)
            self.assert_error(BadField(q), fields.inverse, q=q, letter=1)
            self.assert_error(BadField(q), fields.word_times, q=q, letter=1, word=(1,))
            for call in TWO_LETTERS:
                self.assert_error(BadField(q), call, q=q, one=0, other=0)
            for call in TWO_WORDS:
                self.assert_error(BadField(q), call, q=q, one=(0,), other=(0,))
            for call in ONE_WORD:
                self.assert_error(BadField(q), call, q=q, word=(0,))

    def test_letters(self):
        for q in (2, 3, 4, 5):
            for thing in [q, *others(fits_letter(q))]:
                self.assert_error(BadLetter(thing), fields.inverse, q=q, letter=thing)
                self.assert_error(BadLetter(thing), fields.word_times, q=q, letter=thing, word=(0, 1))
                for call in TWO_LETTERS:
                    self.assert_error(BadLetter(thing), call, q=q, one=thing, other=1)
                    self.assert_error(BadLetter(thing), call, q=q, one=1, other=thing)

    def test_words(self):
        for q in (2, 3, 4, 5):
            for thing in [(q,), (0, q), (q, 0), *others(fits_word(q))]:
                self.assert_error(BadWord(thing), fields.word_times, q=q, letter=1, word=thing)
                for call in TWO_WORDS:
                    self.assert_error(BadWord(thing), call, q=q, one=thing, other=(0, 1))
                    self.assert_error(BadWord(thing), call, q=q, one=(0, 1), other=thing)
                for call in ONE_WORD:
                    self.assert_error(BadWord(thing), call, q=q, word=thing)

    def test_two_wrong_arguments_at_once(self):
        for thing in any_values():
            self.assert_error(BadField(6), fields.is_letter, q=6, thing=thing)
            self.assert_error(BadField(True), fields.inverse, q=True, letter=thing)
            self.assert_error(BadField("2"), fields.word_times, q="2", letter=thing, word=thing)
            self.assert_error(BadLetter(2), fields.word_times, q=2, letter=2, word=thing)
            for call in TWO_LETTERS:
                self.assert_error(BadField(1), call, q=1, one=thing, other=thing)
                self.assert_error(BadLetter([0]), call, q=5, one=[0], other=thing)
            for call in TWO_WORDS:
                self.assert_error(BadField(None), call, q=None, one=thing, other=thing)
                self.assert_error(BadWord((2,)), call, q=2, one=(2,), other=thing)
            for call in ONE_WORD:
                self.assert_error(BadField(()), call, q=(), word=thing)


if __name__ == "__main__":
    unittest.main()
