"""Promises about books and pairs that are kept by names, and the faults of those that are not kept."""

from mirrorbook.books import Book, is_word
from mirrorbook.chances import return_poly
from mirrorbook.compared import judge_never_worse
from mirrorbook.cuts import cuts
from mirrorbook.errors import NoName
from mirrorbook.orders import best_load
from mirrorbook.pairs import Pair, told_by_all
from mirrorbook.places import is_order, sets_of_size
from mirrorbook.tables import rest_number, set_number, table_of
from mirrorbook.values import are_integers_from, is_integer_from

LETTERS = "abcdefghijklmnopqrstuvwxyz"
LONGEST_NAME = 8
OF_A_BOOK = ("mends", "memory")
OF_A_PAIR = ("hides", "opens")
OF_TWO_BOOKS = ("within", "never worse")
MISFIT = ("misfit",)


def is_name(thing):
    """Whether any value is a name."""
    if not isinstance(thing, str) or not 1 <= len(thing) <= LONGEST_NAME:
        return False
    return all([letter in LETTERS for letter in thing])


def find_thing(things, name):
    """What a name stands for, None for any value that is no name of anything."""
    return things.get(name) if isinstance(name, str) else None


def thing_named(things, name):
    found = find_thing(things, name)
    if found is None:
        raise NoName(name)
    return found


def book_named(things, name):
    found = find_thing(things, name)
    if not isinstance(found, Book):
        raise NoName(name)
    return found


def pair_named(things, name):
    found = find_thing(things, name)
    if not isinstance(found, Pair):
        raise NoName(name)
    return found


def is_amount(thing):
    """Whether any value can stand as t or m in a promise."""
    return is_integer_from(thing, 0, 8)


def is_promise(things, thing):
    """Whether any value is a promise whose names stand for what is asked."""
    if not isinstance(thing, tuple) or len(thing) < 3:
        return False
    kind = thing[0]
    if kind in OF_A_PAIR:
        return len(thing) == 3 and isinstance(find_thing(things, thing[1]), Pair) and is_amount(thing[2])
    if not isinstance(find_thing(things, thing[1]), Book):
        return False
    if kind in OF_A_BOOK:
        return len(thing) == 3 and is_amount(thing[2])
    if kind in OF_TWO_BOOKS:
        return len(thing) == 3 and isinstance(find_thing(things, thing[2]), Book)
    return kind == "narrow" and len(thing) == 4 and could_be_order(thing[2]) and is_amount(thing[3])


def could_be_order(thing):
    """Whether any value is a tuple of at most eight integers from 0 to 7, whatever book it is meant for."""
    return are_integers_from(thing, 0, 7) and len(thing) <= 8


def names_in(promise):
    """The names in a promise."""
    if promise[0] in OF_TWO_BOOKS:
        return promise[1:3]
    return promise[1:2]


def with_other_name(promise, name, other):
    """The promise with a name exchanged for another one."""
    names = names_in(promise)
    changed = tuple([other if old == name else old for old in names])
    return promise[:1] + changed + promise[1 + len(names) :]


def fault_of(things, promise):
    """The first fault of a promise, None if it is kept."""
    kind = promise[0]
    thing = things[promise[1]]
    if kind == "mends":
        return fault_of_mends(thing, promise[2])
    if kind == "hides":
        return fault_of_hides(thing, promise[2])
    if kind == "opens":
        return fault_of_opens(thing, promise[2])
    if kind == "narrow":
        return fault_of_narrow(thing, promise[2], promise[3])
    if kind == "memory":
        return fault_of_memory(thing, promise[2])
    if kind == "within":
        return fault_of_within(thing, things[promise[2]])
    return fault_of_never_worse(thing, things[promise[2]])


def sets_of_sizes(n, least, most):
    """All sets of n places with at least and at most so many of them, in order."""
    return [places for size in range(least, most + 1) for places in sets_of_size(n, size)]


def first_fault_of_sets(kind, sets):
    """The fault with the first of some sets, None if there is none."""
    return (kind, sets[0]) if sets != [] else None


def fault_of_mends(book, t):
    table = table_of(book)
    sets = sets_of_sizes(book.n, 0, t)
    lost = [places for places in sets if table[rest_number(table, set_number(places))] < table[-1]]
    return first_fault_of_sets("lost", lost)


def fault_of_hides(pair, t):
    told = told_by_all(pair)
    sets = sets_of_sizes(pair.n, 0, t)
    return first_fault_of_sets("hears", [places for places in sets if told[set_number(places)] > 0])


def fault_of_opens(pair, t):
    told = told_by_all(pair)
    sets = sets_of_sizes(pair.n, t, pair.n)
    return first_fault_of_sets("shut", [places for places in sets if told[set_number(places)] < pair.length])


def fault_of_narrow(book, order, m):
    if not is_order(book.n, order):
        return MISFIT
    greater = [i for i, cut in enumerate(cuts(table_of(book), order)) if cut > m]
    return ("cut", greater[0]) if greater != [] else None


def fault_of_memory(book, m):
    cut = best_load(table_of(book))[0]
    return ("wide", cut) if cut > m else None


def fault_of_within(one, other):
    if one.q != other.q or one.n != other.n:
        return MISFIT
    outside = [row for row in one.rows if not is_word(other, row)]
    return ("word", outside[0]) if outside != [] else None


def fault_of_never_worse(one, other):
    paper = judge_never_worse(return_of(one), return_of(other))
    return paper if paper[0] == "worse" else None


def return_of(book):
    """The return of the table of a book."""
    return return_poly(table_of(book))


def first_unkept(things, promises):
    """The first promise that is not kept, with its fault, None if all are kept."""
    for promise in promises:
        fault = fault_of(things, promise)
        if fault is not None:
            return (promise, fault)
    return None
