"""Values of all kinds, sample books, and a test case that looks at errors."""

import copy
import unittest
from random import Random

from mirrorbook import errors
from mirrorbook.books import Book
from mirrorbook.console import Console
from mirrorbook.house import House
from mirrorbook.pairs import Pair

GREAT = 10**39 + 7


def nested(depth, end):
    thing = end
    for level in range(depth):
        thing = (thing,) if level % 2 else [thing]
    return thing


def any_values():
    """Values of all kinds, made anew at each call."""
    return [
        None,
        True,
        False,
        -1,
        0,
        1,
        2,
        3,
        5,
        6,
        8,
        9,
        256,
        GREAT,
        -GREAT,
        "",
        "0",
        "made",
        "book 2 3",
        "a" * 2000,
        (),
        (0,),
        (1,),
        (0, 0),
        (0, 1),
        (1, 0),
        (True,),
        (False, True),
        (0, 1, True),
        (0, False, 1),
        (0, None),
        (0, "1"),
        (0, (1,)),
        ((0, 1),),
        (("made", (0,)),),
        ("made",),
        ("made", (True,)),
        ("fails", (0, 0, 0)),
        ("start",),
        ("ring", (0, True)),
        ("parted", [0]),
        (0, 1, 2, 3, 4, 5, 6, 7),
        (-1, 0),
        (0, GREAT),
        (0,) * 3000,
        [],
        [0],
        [0, 1],
        {},
        {0: 1},
        {"made": (0,)},
        nested(12, 0),
        nested(12, ()),
        (nested(11, True), 0),
        Book(2, 3, ((1, 1, 0), (0, 1, 1))),
        (Book(5, 1, ()), 0),
        Pair(Book(3, 3, ((1, 0, 2), (0, 1, 2))), Book(3, 3, ((1, 1, 1),))),
        [Pair(Book(2, 1, ((1,),)), Book(2, 1, ()))],
        House(),
        (filled_house(), 0),
        Console(House()),
        ("worse", (3, 2)),
        ("lost", (0,)),
        ("misfit",),
        ("mends", "e", 1),
        ("never worse", "e", "e"),
        (("drop", "e"),),
        "undo",
        "house",
        errors.BadSet((0,)),
        errors.NoMessage(),
    ]


def filled_house():
    """A house with a book, a pair and a promise."""
    house = House()
    house.change(("book", "e", Book(2, 3, ((1, 1, 0), (0, 1, 1)))))
    house.change(("pair", "p", Pair(Book(2, 2, ((1, 0), (0, 1))), Book(2, 2, ((1, 1),)))))
    house.change(("promise", ("mends", "e", 1)))
    return house


def others(fits):
    """The values of all kinds that do not fit."""
    return [thing for thing in any_values() if not fits(thing)]


def is_int(thing):
    return type(thing) is int


def is_letters(q, thing):
    return type(thing) is tuple and all(is_int(item) and 0 <= item < q for item in thing)


def is_places(n, thing):
    return is_letters(n, thing) and list(thing) == sorted(set(thing))


def unit_rows(n):
    return tuple(tuple(int(i == j) for j in range(n)) for i in range(n))


def random_rows(random, q, n, many):
    """Rows of which some are doubled, zero, sums of others or zero at a place."""
    blank = random.randrange(n)
    rows = []
    for _ in range(many):
        kind = random.randrange(6)
        if kind == 0 and rows:
            rows.append(random.choice(rows))
        elif kind == 1:
            rows.append((0,) * n)
        else:
            row = [random.randrange(q) for _ in range(n)]
            if kind < 4:
                row[blank] = 0
            rows.append(tuple(row))
    return tuple(rows)


def sample_books(seed, most_places=4, each=2):
    """Some (q, n, rows) for each field and each number of places, trivial ones among them."""
    random = Random(seed)
    found = []
    for q in (2, 3, 4, 5):
        for n in range(1, most_places + 1):
            found.append((q, n, ()))
            found.append((q, n, unit_rows(n)))
            for _ in range(each):
                found.append((q, n, random_rows(random, q, n, random.randrange(1, n + 2))))
    return found


def same(one, other):
    """Whether two values are equal, with equal kinds at each depth."""
    if type(one) is not type(other):
        return False
    if isinstance(one, (tuple, list)):
        return len(one) == len(other) and all(same(a, b) for a, b in zip(one, other))
    if isinstance(one, dict):
        return same(list(one.items()), list(other.items()))
    if isinstance(one, (errors.BookError, Console)):
        return same(vars(one), vars(other))
    return one == other


def changes(thing):
    """The value with one part, at any depth, replaced, left out, doubled or exchanged with the next one."""
    for new in any_values():
        yield new
    if is_int(thing):
        yield thing + 1
        yield thing - 1
        yield bool(thing)
    if isinstance(thing, tuple):
        yield list(thing)
        yield (thing,)
        yield thing + (thing,)
        yield thing + ((),)
        for at, part in enumerate(thing):
            ahead, behind = thing[:at], thing[at + 1 :]
            yield ahead + behind
            yield ahead + (part, part) + behind
            yield ahead + behind[:1] + (part,) + behind[1:]
            for new in changes(part):
                yield ahead + (new,) + behind


class Case(unittest.TestCase):
    def assert_same(self, found, wanted):
        self.assertTrue(same(found, wanted), f"{found!r} is not {wanted!r}")

    def assert_call(self, wanted, call, **named):
        """The call returns what is wanted by position and by name, and leaves its arguments."""
        before = copy.deepcopy(named)
        self.assert_same(call(*named.values()), wanted)
        self.assert_same(call(**named), wanted)
        self.assert_same(named, before)

    def assert_error(self, wanted, call, **named):
        """The call raises just this error by position and by name, and leaves its arguments."""
        before = copy.deepcopy(named)
        self.assert_raised(wanted, lambda: call(*named.values()), named)
        self.assert_raised(wanted, lambda: call(**named), named)
        self.assert_same(named, before)

    def assert_errors(self, call, right, checks):
        """Each wrong argument raises its error ahead of the later ones, whether these are right or wrong.

        The arguments that are right stand by name; the checks are triples (name, error, wrong values), in order.
        """
        for at, (name, error, wrong) in enumerate(checks):
            for number, thing in enumerate(wrong):
                given = {**right, name: thing}
                self.assert_error(error(thing), call, **given)
                for other, _, values in checks[at + 1 :]:
                    given[other] = values[number % len(values)]
                    self.assert_error(error(thing), call, **given)

    def assert_raised(self, wanted, run, told=None):
        try:
            found = run()
        except errors.BookError as error:
            self.assertIs(type(error), type(wanted), told)
            self.assertTrue(same(vars(error), vars(wanted)), f"{vars(error)!r} is not {vars(wanted)!r}")
            return
        self.fail(f"{found!r} was returned for {told!r} instead of {wanted!r}")
