"""Houses worked out the long way: books and pairs as listed words, each change and promise by the words of [8.3], [8.4]."""

from itertools import permutations

from mirrorbook import errors
from mirrorbook.books import Book
from mirrorbook.pairs import Pair
from tests import brute
from tests.samples import is_int, is_letters, is_places

SIZES = {"book": 3, "pair": 3, "drop": 2, "rename": 3, "row": 3, "check": 3, "place": 3, "without": 3, "fixed": 3}
SIZES.update({"repeat": 3, "turn": 4, "mirror": 2, "seal": 4, "share": 4, "promise": 2, "release": 2})
OF_A_BOOK = ("mends", "memory", "narrow")
OF_A_PAIR = ("hides", "opens")
OF_TWO_BOOKS = ("within", "never worse")


class Refused(Exception):
    """A change is refused with an error of the package."""

    def __init__(self, error):
        self.error = error


def refuse(error):
    raise Refused(error)


def words_of(book):
    return frozenset(brute.span(book.q, book.n, book.rows))


def listed(thing):
    """A book as (q, n, words), a pair as (q, n, words of the big book, words of the small book)."""
    if type(thing) is Book:
        return (thing.q, thing.n, words_of(thing))
    return (thing.q, thing.n, words_of(thing.big), words_of(thing.small))


def made(one):
    """The book or the pair of the package that a listed one stands for."""
    q, n, *words = one
    found = [Book(q, n, brute.reduced(q, n, sorted(some))) for some in words]
    return found[0] if len(found) == 1 else Pair(*found)


def rows_of(one):
    return brute.reduced(one[0], one[1], sorted(one[2]))


def mirror_words(q, n, words):
    return frozenset(brute.checks(q, n, brute.reduced(q, n, sorted(words))))


def is_name(thing):
    return type(thing) is str and 1 <= len(thing) <= 8 and all("a" <= letter <= "z" for letter in thing)


def is_change(thing):
    if type(thing) is not tuple or not thing or type(thing[0]) is not str or SIZES.get(thing[0]) != len(thing):
        return False
    kinds = {"book": Book, "pair": Pair}
    return thing[0] not in kinds or type(thing[2]) is kinds[thing[0]]


class Model:
    """A house: names with listed books and pairs, and promises."""

    def __init__(self, things=None, promises=()):
        self.things = dict(things or {})
        self.promises = promises

    def copy(self):
        return Model(self.things, self.promises)

    def named(self, name, size):
        """What a name stands for: a book (size 3), a pair (size 4), or either (size 0)."""
        if type(name) is not str or name not in self.things or size not in (0, len(self.things[name])):
            refuse(errors.NoName(name))
        return self.things[name]

    def put(self, name, one):
        if not is_name(name):
            refuse(errors.BadName(name))
        if name in self.things and len(self.things[name]) != len(one):
            refuse(errors.NameTaken(name))
        self.things[name] = one

    def change(self, change):
        """Makes a change, or refuses it with its first error."""
        kind, *items = change
        getattr(self, "do_" + kind)(*items)

    def do_book(self, name, book):
        self.put(name, listed(book))

    do_pair = do_book

    def do_drop(self, name):
        self.named(name, 0)
        if any(name in names_in(promise) for promise in self.promises):
            refuse(errors.InUse(name))
        del self.things[name]

    def do_rename(self, name, other):
        one = self.named(name, 0)
        if not is_name(other):
            refuse(errors.BadName(other))
        if other in self.things:
            refuse(errors.NameTaken(other))
        del self.things[name]
        self.things[other] = one
        self.promises = tuple(renamed(promise, name, other) for promise in self.promises)

    def do_row(self, name, word):
        q, n, words = self.named(name, 3)
        if not is_letters(q, word) or len(word) != n:
            refuse(errors.BadWord(word))
        self.things[name] = (q, n, frozenset(brute.span(q, n, [*rows_of((q, n, words)), word])))

    def do_check(self, name, word):
        q, n, words = self.named(name, 3)
        if not is_letters(q, word) or len(word) != n:
            refuse(errors.BadWord(word))
        self.things[name] = (q, n, frozenset(one for one in words if brute.product_of(q, one, word) == 0))

    def do_place(self, name, letters):
        q, n, words = one = self.named(name, 3)
        if n == 8:
            refuse(errors.BadPlaces(9))
        rows = rows_of(one)
        if not is_letters(q, letters) or len(letters) != len(rows):
            refuse(errors.BadWord(letters))
        longer = [row + (letter,) for row, letter in zip(rows, letters)]
        self.things[name] = (q, n + 1, frozenset(brute.span(q, n + 1, longer)))

    def do_without(self, name, places):
        q, n, words = self.named(name, 3)
        if not is_places(n, places) or len(places) == n:
            refuse(errors.BadSet(places))
        self.things[name] = (q, n - len(places), frozenset(brute.left_out(word, places) for word in words))

    def do_fixed(self, name, places):
        q, n, words = self.named(name, 3)
        if not is_places(n, places) or len(places) == n:
            refuse(errors.BadSet(places))
        zero = [word for word in words if not any(word[place] for place in places)]
        self.things[name] = (q, n - len(places), frozenset(brute.left_out(word, places) for word in zero))

    def do_repeat(self, name, place):
        q, n, words = self.named(name, 3)
        if not is_int(place) or not 0 <= place < n:
            refuse(errors.BadPlace(place))
        if n == 8:
            refuse(errors.BadPlaces(9))
        self.things[name] = (q, n + 1, frozenset(word + (word[place],) for word in words))

    def do_turn(self, name, order, factors):
        q, n, words = self.named(name, 3)
        if not is_letters(n, order) or sorted(order) != list(range(n)):
            refuse(errors.BadOrder(order))
        if not is_letters(q, factors) or len(factors) != n or 0 in factors:
            refuse(errors.BadWord(factors))
        turned = [tuple(brute.times(q, word[old], by) for old, by in zip(order, factors)) for word in words]
        self.things[name] = (q, n, frozenset(turned))

    def do_mirror(self, name):
        q, n, *words = self.named(name, 0)
        self.things[name] = (q, n, *[mirror_words(q, n, some) for some in reversed(words)])

    def do_seal(self, big, small, name):
        first, second = self.named(big, 3), self.named(small, 3)
        if first[0] != second[0]:
            refuse(errors.OtherFields())
        if first[1] != second[1]:
            refuse(errors.OtherPlaces())
        outside = [row for row in rows_of(second) if row not in first[2]]
        if outside:
            refuse(errors.NotWithin(outside[0]))
        if first == second:
            refuse(errors.NoMessage())
        self.put(name, (*first, second[2]))

    def do_share(self, book, places, name):
        q, n, words = self.named(book, 3)
        if not is_places(n, places) or len(places) in (0, n):
            refuse(errors.BadSet(places))
        big = frozenset(brute.left_out(word, places) for word in words)
        small = frozenset(brute.left_out(word, places) for word in words if not any(word[at] for at in places))
        if big == small:
            refuse(errors.NoMessage())
        self.put(name, (q, n - len(places), big, small))

    def do_promise(self, promise):
        if not self.is_promise(promise) or promise in self.promises:
            refuse(errors.BadPromise(promise))
        self.promises += (promise,)

    def do_release(self, promise):
        if not self.is_promise(promise) or promise not in self.promises:
            refuse(errors.NoPromise(promise))
        self.promises = tuple(one for one in self.promises if one != promise)

    def is_promise(self, thing):
        """Whether any value is a promise whose names stand for what is asked."""
        if type(thing) is not tuple or len(thing) not in (3, 4) or type(thing[0]) is not str:
            return False
        kind, names, rest = thing[0], thing[1:2], thing[2:]
        if kind in OF_TWO_BOOKS:
            names, rest = thing[1:3], thing[3:]
        if not all(type(name) is str and name in self.things for name in names):
            return False
        if any(len(self.things[name]) != (4 if kind in OF_A_PAIR else 3) for name in names):
            return False
        if kind == "narrow" and len(rest) == 2 and is_letters(8, rest[0]) and len(rest[0]) <= 8:
            rest = rest[1:]
        elif kind in OF_TWO_BOOKS or kind == "narrow":
            return kind != "narrow" and rest == ()
        return kind in OF_A_BOOK + OF_A_PAIR and len(rest) == 1 and is_int(rest[0]) and 0 <= rest[0] <= 8

    def fault(self, promise):
        """The fault of a promise of any kind but "never worse", None if it is kept."""
        kind = promise[0]
        one = self.things[promise[1]]
        n = one[1]
        if kind == "mends":
            return fault_with(
                "lost", [lost for lost in sets(n, 0, promise[2]) if not tells_all(one, brute.rest(n, lost))]
            )
        if kind == "hides":
            return fault_with("hears", [some for some in sets(n, 0, promise[2]) if told(one, some) > 0])
        if kind == "opens":
            length = told(one, tuple(range(n)))
            return fault_with("shut", [some for some in sets(n, promise[2], n) if told(one, some) < length])
        if kind == "narrow":
            if sorted(promise[2]) != list(range(n)):
                return ("misfit",)
            return fault_with("cut", [i for i, cut in enumerate(cuts(one, promise[2])) if cut > promise[3]])
        if kind == "memory":
            least = min(max(cuts(one, order)) for order in permutations(range(n)))
            return ("wide", least) if least > promise[2] else None
        other = self.things[promise[2]]
        if one[:2] != other[:2]:
            return ("misfit",)
        return fault_with("word", [row for row in rows_of(one) if row not in other[2]])


def names_in(promise):
    return promise[1:3] if promise[0] in OF_TWO_BOOKS else promise[1:2]


def renamed(promise, name, other):
    """The promise with a name exchanged where names stand."""
    many = len(names_in(promise))
    return tuple(other if 0 < at <= many and part == name else part for at, part in enumerate(promise))


def fault_with(kind, found):
    return (kind, found[0]) if found else None


def sets(n, least, most):
    return [places for places in brute.sets(n) if least <= len(places) <= most]


def heard(words, places):
    return {tuple(word[place] for place in places) for word in words}


def tells_all(one, places):
    return len(heard(one[2], places)) == len(one[2])


def told(one, places):
    q = one[0]
    return brute.dimension(q, heard(one[2], places)) - brute.dimension(q, heard(one[3], places))


def cuts(one, order):
    q, n, words = one
    found = []
    for i in range(n + 1):
        ranks = [brute.dimension(q, heard(words, some)) for some in (order[:i], order[i:], order)]
        found.append(ranks[0] + ranks[1] - ranks[2])
    return found


def same_house(house, model):
    """Whether a house has just what a model has."""
    if house.names() != tuple(sorted(model.things)) or house.promises() != model.promises:
        return False
    for name, one in model.things.items():
        found = house.book(name) if len(one) == 3 else house.pair(name)
        if found != made(one):
            return False
    return True
