"""Books made of books."""

from mirrorbook.books import Book, is_word
from mirrorbook.errors import BadWord, OtherFields, OtherPlaces
from mirrorbook.letters import letter_times
from mirrorbook.places import check_order, check_place, kept_places, picked
from mirrorbook.rows import check_rows
from mirrorbook.values import is_row


def mirror(book):
    """The book of all checks of the book."""
    return Book(book.q, book.n, check_rows(book.q, book.n, book.rows))


def without(book, places):
    """All words of the book with these places left out."""
    kept = kept_places(book.n, places)
    return Book(book.q, len(kept), tuple([picked(row, kept) for row in book.rows]))


def fixed(book, places):
    """The words of the book that have 0 at these places, with the places left out."""
    # The mirror of a book without a set is its mirror fixed at the set.
    return mirror(without(mirror(book), places))


def beside(one, other):
    """All words of the first book, each of them followed by each word of the second one."""
    check_fields(one, other)
    ahead = [row + (0,) * other.n for row in one.rows]
    behind = [(0,) * one.n + row for row in other.rows]
    # No book has more than eight places: Book itself refuses them, here and in what follows.
    return Book(one.q, one.n + other.n, tuple(ahead + behind))


def repeated(book, place):
    """Each word of the book followed by its letter at the place."""
    check_place(book.n, place)
    return Book(book.q, book.n + 1, tuple([row + (row[place],) for row in book.rows]))


def turned(book, order, factors):
    """The book whose words have at place i the letter at order[i] times factors[i]."""
    check_order(book.n, order)
    if not is_row(book.q, book.n, factors) or 0 in factors:
        raise BadWord(factors)
    return Book(book.q, book.n, tuple([turned_row(book.q, row, order, factors) for row in book.rows]))


def turned_row(q, row, order, factors):
    return tuple([letter_times(q, letter, factor) for letter, factor in zip(picked(row, order), factors)])


def check_fields(one, other):
    if one.q != other.q:
        raise OtherFields()


def check_fields_and_places(one, other):
    check_fields(one, other)
    if one.n != other.n:
        raise OtherPlaces()


def sum_of(one, other):
    """All sums of a word of one book and a word of the other."""
    check_fields_and_places(one, other)
    return Book(one.q, one.n, one.rows + other.rows)


def common(one, other):
    """All words that are in both books."""
    # The mirror of a sum is the common book of the mirrors; the sum refuses unlike books.
    return mirror(sum_of(mirror(one), mirror(other)))


def is_within(one, other):
    """Whether all words of one book are words of the other."""
    check_fields_and_places(one, other)
    return all([is_word(other, row) for row in one.rows])
