"""Changes of a house: of what names stand for, and of the promises that are given.

A state of a house is a pair: a dict of the names with what they stand for, and the tuple of the promises. No state is
ever changed; a change makes another one.
"""

from mirrorbook.bookforms import fixed, mirror, repeated, sum_of, turned, without
from mirrorbook.books import Book
from mirrorbook.errors import BadChange, BadName, BadPlaces, BadPromise, BadWord, BookError, InUse, NameTaken, NoPromise
from mirrorbook.pairs import Pair, dealt, mirrored
from mirrorbook.places import MOST_PLACES
from mirrorbook.promises import book_named, is_name, is_promise, names_in, thing_named, with_other_name
from mirrorbook.values import is_row

SIZES = {
    "book": 3,
    "pair": 3,
    "drop": 2,
    "rename": 3,
    "row": 3,
    "check": 3,
    "place": 3,
    "without": 3,
    "fixed": 3,
    "repeat": 3,
    "turn": 4,
    "mirror": 2,
    "seal": 4,
    "share": 4,
    "promise": 2,
    "release": 2,
}


def is_change(thing):
    """Whether any value has the form of a change, whatever comes of it."""
    if not isinstance(thing, tuple) or thing == () or not isinstance(thing[0], str):
        return False
    kind = thing[0]
    if SIZES.get(kind) != len(thing):
        return False
    if kind == "book":
        return isinstance(thing[2], Book)
    return kind != "pair" or isinstance(thing[2], Pair)


def state_after_all(state, changes):
    """The state after changes that are made one after the other; an error tells the number of the first wrong one."""
    if not isinstance(changes, tuple):
        raise BadChange(-1)
    found = state
    for number, change in enumerate(changes):
        if not is_change(change):
            raise BadChange(number)
        try:
            found = state_after(found, change)
        except BookError:
            raise BadChange(number)
    return found


def state_after(state, change):
    """The state after a change that has the form of one."""
    things, promises = state
    kind = change[0]
    if kind == "promise":
        return (things, promises + (checked_promise(things, promises, change[1]),))
    if kind == "release":
        return (things, promises_without(things, promises, change[1]))
    if kind == "drop":
        return (things_without(things, promises, change[1]), promises)
    if kind == "rename":
        return state_with_other_name(state, change[1], change[2])
    return (things_after(things, change), promises)


def checked_promise(things, promises, promise):
    """The promise, if it can be given."""
    if not is_promise(things, promise) or promise in promises:
        raise BadPromise(promise)
    return promise


def promises_without(things, promises, promise):
    # A value that is equal to a promise need not be one: True is equal to 1.
    if not is_promise(things, promise) or promise not in promises:
        raise NoPromise(promise)
    return tuple([other for other in promises if other != promise])


def left_out(things, name):
    """The dict without a name."""
    return {other: things[other] for other in things if other != name}


def things_without(things, promises, name):
    thing_named(things, name)
    if any([name in names_in(promise) for promise in promises]):
        raise InUse(name)
    return left_out(things, name)


def state_with_other_name(state, name, other):
    things, promises = state
    thing = thing_named(things, name)
    if not is_name(other):
        raise BadName(other)
    if other in things:
        raise NameTaken(other)
    return ({**left_out(things, name), other: thing}, tuple([with_other_name(old, name, other) for old in promises]))


def put(things, name, thing):
    """The dict in which a name stands for a book or a pair."""
    if not is_name(name):
        raise BadName(name)
    if name in things and isinstance(things[name], Book) != isinstance(thing, Book):
        raise NameTaken(name)
    return {**things, name: thing}


def things_after(things, change):
    """The dict after a change of what a name stands for."""
    kind = change[0]
    if kind in ("book", "pair"):
        return put(things, change[1], change[2])
    if kind == "seal":
        return put(things, change[3], Pair(book_named(things, change[1]), book_named(things, change[2])))
    if kind == "share":
        return put(things, change[3], dealt(book_named(things, change[1]), change[2]))
    name = change[1]
    if kind == "mirror":
        return put(things, name, mirror_of(thing_named(things, name)))
    return put(things, name, changed_book(book_named(things, name), kind, change[2:]))


def mirror_of(thing):
    """The mirror of a book, the mirrored pair of a pair."""
    if isinstance(thing, Book):
        return mirror(thing)
    return mirrored(thing)


def changed_book(book, kind, items):
    """The book after a change of this kind with these items."""
    if kind == "row":
        return with_row(book, *items)
    if kind == "check":
        return with_check(book, *items)
    if kind == "place":
        return with_last_place(book, *items)
    if kind == "without":
        return without(book, *items)
    if kind == "fixed":
        return fixed(book, *items)
    if kind == "repeat":
        return repeated(book, *items)
    return turned(book, *items)


def book_of_word(book, word):
    """The book of one word of as many letters as those of another book."""
    if not is_row(book.q, book.n, word):
        raise BadWord(word)
    return Book(book.q, book.n, (word,))


def with_row(book, word):
    """The sum of a book and the book of one word."""
    return sum_of(book, book_of_word(book, word))


def with_check(book, word):
    """The words of a book whose product with one word is 0."""
    return mirror(with_row(mirror(book), word))


def with_last_place(book, letters):
    """The book with one more place, at which its reduced rows have these letters."""
    if book.n == MOST_PLACES:
        raise BadPlaces(book.n + 1)
    if not is_row(book.q, book.dimension, letters):
        raise BadWord(letters)
    return Book(book.q, book.n + 1, tuple([row + (letter,) for row, letter in zip(book.rows, letters)]))
