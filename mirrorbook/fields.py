"""Fields of two to five letters, and words over them."""

from mirrorbook.errors import BadField, BadLetter, BadWord
from mirrorbook.letters import letter_inverse, letter_negative, letter_sum, letter_times
from mirrorbook.letters import row_product, row_sum, row_support, row_times
from mirrorbook.values import are_letters, is_integer_from


def check_field(q):
    if not is_integer_from(q, 2, 5):
        raise BadField(q)


def check_letter(q, thing):
    if not is_integer_from(thing, 0, q - 1):
        raise BadLetter(thing)


def check_word(q, thing):
    if not are_letters(q, thing):
        raise BadWord(thing)


def check_two_letters(q, one, other):
    check_field(q)
    check_letter(q, one)
    check_letter(q, other)


def check_two_words(q, one, other):
    check_field(q)
    check_word(q, one)
    check_word(q, other)
    if len(one) != len(other):
        raise BadWord(other)


def is_letter(q, thing):
    """Whether any value is a letter of the field of q letters."""
    check_field(q)
    return is_integer_from(thing, 0, q - 1)


def add(q, one, other):
    """The sum of two letters."""
    check_two_letters(q, one, other)
    return letter_sum(q, one, other)


def subtract(q, one, other):
    """The letter whose sum with other is one."""
    check_two_letters(q, one, other)
    return letter_sum(q, one, letter_negative(q, other))


def times(q, one, other):
    """The product of two letters."""
    check_two_letters(q, one, other)
    return letter_times(q, one, other)


def inverse(q, letter):
    """The letter whose product with this one is 1; 0 has none."""
    check_field(q)
    check_letter(q, letter)
    if letter == 0:
        raise BadLetter(letter)
    return letter_inverse(q, letter)


def word_sum(q, one, other):
    """The sum of two words, place by place."""
    check_two_words(q, one, other)
    return row_sum(q, one, other)


def word_times(q, letter, word):
    """The word with each of its letters multiplied by a letter."""
    check_field(q)
    check_letter(q, letter)
    check_word(q, word)
    return row_times(q, letter, word)


def product(q, one, other):
    """The letter that is the sum of the products of the letters, place by place."""
    check_two_words(q, one, other)
    return row_product(q, one, other)


def support(q, word):
    """The set of the places of the word with a letter that is not 0."""
    check_field(q)
    check_word(q, word)
    return row_support(word)


def weight(q, word):
    """How many places of the word have a letter that is not 0."""
    return len(support(q, word))
