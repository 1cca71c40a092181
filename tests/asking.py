"""Questions of all kinds, and what is a question, by the words of [8.1]."""

from mirrorbook.books import Book
from mirrorbook.pairs import Pair
from mirrorbook.readers import reader_of
from tests import rankings, walking
from tests.samples import is_int, is_letters, is_places

R = (0, 1, 1, 2, 1, 2, 2, 2)
TWOS = (0, 1, 1, 1, 1, 2, 2, 2, 1, 2, 2, 2, 1, 2, 2, 2)
U = rankings.uniform(4, 2)
BROKEN = rankings.beside(rankings.uniform(2, 1), U)
TABLES = ((0, 1), (0, 0), rankings.uniform(2, 1), (0, 0, 1, 1), R, (0, 1, 1, 1, 1, 1, 1, 1), TWOS, U)
EVEN = Book(2, 3, ((1, 1, 0), (0, 1, 1)))
BOOKS = (
    EVEN,
    Book(3, 2, ((1, 2),)),
    Book(4, 1, ()),
    Book(5, 2, ((1, 0), (0, 1))),
    Book(2, 4, ((1, 1, 0, 0), (0, 0, 1, 1))),
)
PAIRS = (
    Pair(Book(3, 3, ((1, 0, 2), (0, 1, 2))), Book(3, 3, ((1, 1, 1),))),
    Pair(Book(2, 3, ((1, 0, 0), (0, 1, 0), (0, 0, 1))), Book(2, 3, ((1, 1, 1),))),
    Pair(Book(4, 2, ((1, 0), (0, 1))), Book(4, 2, ())),
    Pair(Book(5, 1, ((1,),)), Book(5, 1, ())),
)
POLYNOMIALS = ((), (1,), (1, 0, 0, -1), (1, 0, -3, 2), (1, -1), (0, 3, -1))


def places_of(table):
    return rankings.PLACES[len(table)]


def of_tables(tables):
    """Questions about tables of all kinds that can be turned."""
    for table in tables:
        n = places_of(table)
        yield from [("places", table, one, other) for one in range(n) for other in range(n) if one != other]
        yield from [("balanced", table, weight, t) for weight in range(n + 1) for t in range(weight + 1)]
        yield from [("reach", table, j, size) for j in range(1, table[-1] + 1) for size in range(n + 1)]
        yield ("chain", table)
        yield from [("narrow", table, m) for m in (-1, 0, 1, 2, 40)]
        yield from [("short", table, m) for m in (-1, 0, 1, 2, 3, 4, 40)]
        yield from [("by places", table, other) for other in tables if len(other) == len(table)]


def of_others():
    """Questions of the other kinds."""
    for book in BOOKS:
        yield from [("word", book, (letter,) * book.n) for letter in range(2)]
        yield ("word", book, (1,) + (0,) * (book.n - 1))
        order = tuple(range(book.n))[::-1]
        reader = reader_of(book, order)
        yield from [("reader", book, order, reader), ("reader", book, order[::-1], reader), ("least", reader)]
    yield ("reader", BOOKS[-1], (0, 1, 2, 3), reader_of(BOOKS[-1], (0, 2, 1, 3)))
    yield ("least", walking.MIXED)
    yield from [("never worse", one, other) for one in POLYNOMIALS for other in POLYNOMIALS]
    for pair in PAIRS:
        for places in ((), (0,), tuple(range(pair.n))):
            yield ("letter", pair, places, (1,) + (0,) * (pair.length - 1))
            yield ("letter", pair, places, (1,) * pair.length)


def questions():
    return [*of_tables(TABLES), *of_others()]


def is_table(thing):
    return rankings.fits_ranks(thing) and rankings.is_table(thing)


def is_polynomial(thing):
    return type(thing) is tuple and all(map(is_int, thing)) and (thing == () or thing[-1] != 0)


def is_order(n, thing):
    return is_letters(n, thing) and sorted(thing) == list(range(n))


def is_between(low, thing, high):
    return is_int(thing) and low <= thing <= high


def fits(thing):
    """Whether any value is a question, by the words of the document."""
    if type(thing) is not tuple or not thing or type(thing[0]) is not str:
        return False
    kind, parts = thing[0], thing[1:]
    sizes = {"chain": 1, "least": 1, "word": 2, "narrow": 2, "short": 2, "never worse": 2, "by places": 2}
    sizes.update({"places": 3, "balanced": 3, "reach": 3, "reader": 3, "letter": 3})
    if sizes.get(kind) != len(parts):
        return False
    if kind == "word":
        book, word = parts
        return type(book) is Book and is_letters(book.q, word) and len(word) == book.n
    if kind == "reader":
        book, order, reader = parts
        if type(book) is not Book or not walking.fits(reader) or not is_order(book.n, order):
            return False
        return (reader[0], len(reader[2])) == (book.q, book.n)
    if kind == "least":
        return walking.fits(parts[0])
    if kind == "never worse":
        return all(map(is_polynomial, parts))
    if kind == "letter":
        pair, places, wish = parts
        if type(pair) is not Pair or not is_places(pair.n, places):
            return False
        return is_letters(pair.q, wish) and len(wish) == pair.length and any(wish)
    if kind == "by places":
        return all(map(is_table, parts)) and len(parts[0]) == len(parts[1])
    return is_table(parts[0]) and fits_table(kind, parts)


def fits_table(kind, parts):
    table, n = parts[0], places_of(parts[0])
    if kind == "chain":
        return True
    if kind in ("narrow", "short"):
        return is_between(-1, parts[1], 40)
    if kind == "places":
        return is_between(0, parts[1], n - 1) and is_between(0, parts[2], n - 1) and parts[1] != parts[2]
    if kind == "balanced":
        return is_between(0, parts[1], n) and is_between(0, parts[2], parts[1])
    return is_between(1, parts[1], table[-1]) and is_between(0, parts[2], n)
