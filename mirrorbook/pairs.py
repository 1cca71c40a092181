"""Pairs of a big and a small book: what sets of places tell of a message that is hidden between the two."""

from mirrorbook.bookforms import beside, check_fields, check_fields_and_places, fixed, mirror, without
from mirrorbook.books import Book, is_word, leads
from mirrorbook.chances import left_poly
from mirrorbook.errors import BadNumber, BadPair, BadSet, BadText, BookError, NoMessage, NotWithin
from mirrorbook.places import check_set, in_order, rest_of, sets_of_size
from mirrorbook.rows import lead_of
from mirrorbook.tables import rank_in_book, set_number, set_of, table_of, with_place
from mirrorbook.values import is_integer_from

MIDDLE = "hides"


class Pair:
    """A big book, and a small one that is within it and has a lesser dimension."""

    def __init__(self, big, small):
        for book in (big, small):
            if not isinstance(book, Book):
                raise BadPair(book)
        check_fields_and_places(big, small)
        for row in small.rows:
            if not is_word(big, row):
                raise NotWithin(row)
        if big.dimension == small.dimension:
            raise NoMessage()
        self.big = big
        self.small = small
        self.q = big.q
        self.n = big.n
        self.length = big.dimension - small.dimension
        self.message_rows = tuple([row for row in big.rows if lead_of(row) not in leads(small)])

    def __eq__(self, other):
        return isinstance(other, Pair) and self.big == other.big and self.small == other.small

    def __str__(self):
        return "\n".join([str(self.big), MIDDLE, str(self.small)])

    @classmethod
    def read(cls, text):
        """The pair of a text; an error names the first line that cannot stand."""
        if not isinstance(text, str):
            raise BadText(0)
        lines = text.split("\n")
        middle = middle_of(lines)
        big = book_of_lines(lines[:middle], 0)
        if middle == len(lines):
            raise BadText(middle + 1)
        small = book_of_lines(lines[middle + 1 :], middle + 1)
        try:
            return cls(big, small)
        except BookError:
            raise BadText(len(lines) + 1)


def middle_of(lines):
    """Where the first line between two books stands behind the first line, the number of lines if there is none."""
    return min([at for at in range(1, len(lines)) if lines[at] == MIDDLE], default=len(lines))


def book_of_lines(lines, ahead):
    """The book of lines of a text that stand behind so many other lines."""
    try:
        return Book.read("\n".join(lines))
    except BadText as error:
        raise BadText(ahead + error.line)


def mirrored(pair):
    """The pair of the mirrors, of which that of the small book is the big one."""
    return Pair(mirror(pair.small), mirror(pair.big))


def dealt(book, places):
    """The pair of a book without a set and the book fixed at it."""
    if places == ():
        raise BadSet(places)
    return Pair(without(book, places), fixed(book, places))


def pairs_beside(one, other):
    """The pair of the big books beside one another and the small books beside one another."""
    check_fields(one, other)
    return Pair(beside(one.big, other.big), beside(one.small, other.small))


def told_by(pair, places):
    """How many letters of the message a set tells."""
    check_set(pair.n, places)
    return rank_in_book(pair.big, places) - rank_in_book(pair.small, places)


def does_open(pair, places):
    """Whether a set tells the whole message."""
    return told_by(pair, places) == pair.length


def is_deaf(pair, places):
    """Whether a set tells nothing of the message."""
    return told_by(pair, places) == 0


def told_by_all(pair):
    """What each set tells, at the number of the set."""
    return [big - small for big, small in zip(table_of(pair.big), table_of(pair.small))]


def lesser_sets(number):
    """The numbers of a set with any one of its places taken away."""
    return [number ^ (1 << place) for place in set_of(number)]


def greater_sets(n, number):
    """The numbers of a set with any one other place put into it."""
    return [with_place(number, place) for place in rest_of(n, set_of(number))]


def openers(pair):
    """The least sets that open the pair, in order."""
    told = told_by_all(pair)
    h = pair.length
    opening = [number for number in range(len(told)) if told[number] == h]
    least = [number for number in opening if all([told[less] < h for less in lesser_sets(number)])]
    return in_order([set_of(number) for number in least])


def deaf_sets(pair):
    """The greatest deaf sets, in order."""
    told = told_by_all(pair)
    deaf = [number for number in range(len(told)) if told[number] == 0]
    greatest = [number for number in deaf if all([told[more] > 0 for more in greater_sets(pair.n, number)])]
    return in_order([set_of(number) for number in greatest])


def sizes_telling(told, least, most):
    """The sizes of the sets that tell from least to most letters."""
    return [len(set_of(number)) for number in range(len(told)) if least <= told[number] <= most]


def reaches(pair):
    """For each j from 1 to the length the least size of a set that tells at least j."""
    told = told_by_all(pair)
    h = pair.length
    return tuple([min(sizes_telling(told, j, h)) for j in range(1, h + 1)])


def sures(pair):
    """For each j from 1 to the length the least t such that each set of t places tells at least j."""
    told = told_by_all(pair)
    # A set within one that tells less than j tells less, too, so one more place than the greatest such set is enough.
    return tuple([max(sizes_telling(told, 0, j - 1)) + 1 for j in range(1, pair.length + 1)])


def reaching(pair, j):
    """All sets of the least size at which a set tells at least j that do so, in order."""
    if not is_integer_from(j, 1, pair.length):
        raise BadNumber(j)
    told = told_by_all(pair)
    return tuple([places for places in sets_of_size(pair.n, reaches(pair)[j - 1]) if told[set_number(places)] >= j])


def told_chance(pair, j):
    """The chance that the places that are left tell just j letters, as a polynomial in the chance of loss."""
    if not is_integer_from(j, 0, pair.length):
        raise BadNumber(j)
    told = told_by_all(pair)
    return left_poly(pair.n, [number for number in range(len(told)) if told[number] == j])


def told_amount(pair):
    """How many letters the places that are left tell on average, as a polynomial in the chance of loss."""
    told = told_by_all(pair)
    # Each set is counted as many times as it tells letters.
    return left_poly(pair.n, [number for number in range(len(told)) for _ in range(told[number])])
