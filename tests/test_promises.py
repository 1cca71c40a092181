"""mirrorbook/house.py: [8.3] Houses: promises, their faults, what is judged of them."""

import unittest
from fractions import Fraction
from itertools import permutations
from random import Random

from mirrorbook import errors
from mirrorbook.books import Book
from mirrorbook.chances import return_poly
from mirrorbook.compared import judge_never_worse
from mirrorbook.errors import BadPromise, BookError, Unkept
from mirrorbook.house import House, promise_fault_holds
from mirrorbook.pairs import Pair
from mirrorbook.tables import table_of
from tests import chancing, housing
from tests.housing import Model
from tests.samples import Case, any_values, changes, is_int
from tests.test_changes import drawn_change
from tests.test_compared import is_right

EVEN = Book(2, 3, ((1, 1, 0), (0, 1, 1)))
ONES = Book(2, 3, ((1, 1, 1),))
WHOLE = Book(2, 3, ((1, 0, 0), (0, 1, 0), (0, 0, 1)))
NONE = Book(2, 3, ())
TWOS = Book(2, 4, ((1, 0, 1, 0), (0, 1, 0, 1)))
THREES = Book(3, 2, ((1, 2),))
# The table of this one has no order with cuts of at most 1, and its return crosses that of others.
WIDE = Book(3, 4, ((1, 0, 1, 1), (0, 1, 1, 2)))
THINGS = {
    "a": EVEN,
    "b": ONES,
    "whole": WHOLE,
    "none": NONE,
    "twos": TWOS,
    "threes": THREES,
    "wide": WIDE,
    "p": Pair(WHOLE, ONES),
    "r": Pair(TWOS, Book(2, 4, ((1, 1, 1, 1),))),
    "s": Pair(WIDE, Book(3, 4, ())),
}
BOOKS = [name for name in THINGS if isinstance(THINGS[name], Book)]
PAIRS = [name for name in THINGS if name not in BOOKS]


def house_and_model(things=None):
    house, model = House(), Model()
    for name, thing in (things or THINGS).items():
        change = ("book" if isinstance(thing, Book) else "pair", name, thing)
        house.change(change)
        model.change(change)
    return house, model


def promises():
    """Promises of all kinds about the things of the house."""
    found = [(kind, name, t) for kind in ("mends", "memory") for name in BOOKS for t in range(9)]
    found += [(kind, name, t) for kind in ("hides", "opens") for name in PAIRS for t in range(9)]
    found += [(kind, one, other) for kind in ("within", "never worse") for one in BOOKS for other in BOOKS]
    for name in BOOKS:
        n = THINGS[name].n
        orders = [(), (0,), (7,) * 8, (0, 0, 1), tuple(range(8)), *list(permutations(range(n)))[:7]]
        found += [("narrow", name, order, m) for order in orders for m in (0, 1, 2, 8)]
    return found


def return_value(book, chance):
    return chancing.value_of(return_poly(table_of(book)), chance)


class Judged(Case):
    def assert_judged(self, house, model, promise):
        """What is judged of a promise, held against listed words; returns the fault or None."""
        found = house.judged(promise)
        if promise[0] == "never worse":
            one, other = [return_poly(table_of(house.book(name))) for name in promise[1:]]
            paper = judge_never_worse(one, other)
            self.assertTrue(is_right(one, other, paper))
            if found == ("kept",):
                self.assertEqual(paper[0], "never worse")
            else:
                self.assertTrue(is_right(one, other, found) and found[0] == "worse")
        else:
            fault = model.fault(promise)
            self.assert_same(found, ("kept",) if fault is None else fault)
        self.assertIs(promise_fault_holds(house, promise, found), found != ("kept",))
        return None if found == ("kept",) else found

    def test_promises_of_all_kinds_kept_and_not(self):
        house, model = house_and_model()
        met = set()
        for promise in promises():
            self.assertTrue(model.is_promise(promise))
            fault = self.assert_judged(house, model, promise)
            met.add((promise[0], fault and fault[0]))
            # Given or not: a promise can be given just if it is kept.
            before = house.copy()
            if fault is None:
                self.assert_call(("kept",), house.judged, promise=promise)
                house.change(("promise", promise))
                self.assertEqual(house.promises(), (promise,))
                self.assert_call(("kept",), house.judged, promise=promise)
                house.undo()
            else:
                self.assert_error(Unkept(promise, fault), house.change, change=("promise", promise))
            self.assertTrue(house == before and house.deals() == before.deals())
        kinds = [("mends", "lost"), ("hides", "hears"), ("opens", "shut"), ("narrow", "misfit"), ("narrow", "cut")]
        kinds += [("memory", "wide"), ("within", "misfit"), ("within", "word"), ("never worse", "worse")]
        kept = [(kind, None) for kind in ("mends", "hides", "opens", "narrow", "memory", "within", "never worse")]
        self.assertEqual(met, {*kinds, *kept})

    def test_drawn_houses(self):
        for seed in range(25):
            random = Random(100 + seed)
            house, model = house_and_model({"a": EVEN, "b": WHOLE, "c": THREES, "d": Pair(WHOLE, ONES)})
            for _ in range(25):
                change = drawn_change(random, model)
                if change[0] not in ("promise", "release"):
                    try:
                        house.change(change)
                        model.change(change)
                    except BookError:
                        pass
                    if max([0, *[one[1] for one in model.things.values()]]) > 4:
                        house.undo()
                        model = Model({name: housing.listed(thing) for name, thing in things_of(house).items()})
                elif model.is_promise(change[1]):
                    self.assert_judged(house, model, change[1])

    def test_edges_of_the_kinds(self):
        house, _ = house_and_model()
        for promise, wanted in (
            (("mends", "a", 0), ("kept",)),
            (("mends", "a", 1), ("kept",)),
            (("mends", "a", 2), ("lost", (0, 1))),
            (("mends", "a", 8), ("lost", (0, 1))),
            (("mends", "none", 3), ("kept",)),
            (("mends", "none", 8), ("kept",)),
            (("mends", "whole", 1), ("lost", (0,))),
            (("mends", "b", 2), ("kept",)),
            (("mends", "b", 3), ("lost", (0, 1, 2))),
            (("hides", "p", 0), ("kept",)),
            (("hides", "p", 1), ("kept",)),
            (("hides", "p", 2), ("hears", (0, 1))),
            (("hides", "p", 8), ("hears", (0, 1))),
            (("opens", "p", 0), ("shut", ())),
            (("opens", "p", 2), ("shut", (0, 1))),
            (("opens", "p", 3), ("kept",)),
            (("opens", "p", 4), ("kept",)),
            (("opens", "p", 8), ("kept",)),
            (("narrow", "twos", (0, 2, 1, 3), 1), ("kept",)),
            (("narrow", "twos", (0, 1, 2, 3), 1), ("cut", 2)),
            (("narrow", "twos", (0, 1, 2, 3), 0), ("cut", 1)),
            (("narrow", "twos", (0, 1, 2), 8), ("misfit",)),
            (("narrow", "twos", (0, 1, 2, 2), 8), ("misfit",)),
            (("narrow", "twos", (), 8), ("misfit",)),
            (("memory", "twos", 1), ("kept",)),
            (("memory", "twos", 0), ("wide", 1)),
            (("memory", "wide", 1), ("wide", 2)),
            (("within", "a", "threes"), ("misfit",)),
            (("within", "a", "twos"), ("misfit",)),
            (("within", "a", "a"), ("kept",)),
            (("within", "whole", "a"), ("word", (1, 0, 0))),
            (("within", "b", "a"), ("word", (1, 1, 1))),
            (("never worse", "a", "a"), ("kept",)),
            (("never worse", "none", "whole"), ("kept",)),
            (("never worse", "b", "threes"), ("kept",)),
        ):
            self.assert_call(wanted, house.judged, promise=promise)

    def test_returns_of_books_of_other_fields_and_places(self):
        house, _ = house_and_model()
        for one in BOOKS:
            for other in BOOKS:
                found = house.judged(("never worse", one, other))
                if found == ("kept",):
                    for chance in chancing.CHANCES:
                        self.assertGreaterEqual(return_value(THINGS[one], chance), return_value(THINGS[other], chance))
                else:
                    chance = Fraction(*found[1])
                    self.assertLess(return_value(THINGS[one], chance), return_value(THINGS[other], chance))

    def test_values_that_are_no_promises(self):
        house, model = house_and_model()
        wrong = [*any_values(), ("mends", "p", 1), ("hides", "a", 1), ("opens", "x", 1), ("memory", "a", 9)]
        wrong += [("memory", "a", -1), ("memory", "a", True), ("narrow", "a", (0, 1, 2)), ("narrow", "a", 1, (0, 1, 2))]
        wrong += [("narrow", "a", [0, 1, 2], 1), ("narrow", "a", (0, 1, 8), 1), ("narrow", "a", (0,) * 9, 1)]
        wrong += [("narrow", "a", (0, True), 1), ("narrow", "a", (0, -1), 1), ("narrow", "a", (0, 1, 2), 9)]
        wrong += [("within", "a", "p"), ("within", "p", "a"), ("within", "a"), ("better", "a", "b"), ["mends", "a", 1]]
        wrong += [("never worse", "a", "b", 0), ("never worse", "a", None), ("never worse", ["a"], "b"), ("kept",)]
        wrong += [(kind, THINGS["a"], 1) for kind in ("mends", "memory")] + [("mends", "a", 1, ())]
        wrong += [(kind, "p", t) for kind in ("hides", "opens") for t in (9, -1, True, None, "1", (1,))]
        wrong += [(kind, "p", 1, 1) for kind in ("hides", "opens")] + [(kind, "p") for kind in ("hides", "opens")]
        wrong += [(kind, "a", (0, 1, 2), 1) for kind in ("order", "Narrow", "mends", "within", 1, None, ("narrow",))]
        for promise in wrong:
            self.assertFalse(model.is_promise(promise))
            self.assert_error(BadPromise(promise), house.judged, promise=promise)
            for thing in (("lost", (0,)), ("misfit",), ("worse", (1, 2)), None):
                self.assert_call(False, promise_fault_holds, house=house, promise=promise, thing=thing)


def things_of(house):
    found = {}
    for name in house.names():
        try:
            found[name] = house.book(name)
        except errors.NoName:
            found[name] = house.pair(name)
    return found


def is_fault(house, model, promise, thing):
    """Whether any value is a fault of a promise."""
    if promise[0] != "never worse":
        fault = model.fault(promise)
        return fault is not None and plain(thing) and thing == fault
    if type(thing) is not tuple or len(thing) != 2 or thing[0] != "worse" or type(thing[1]) is not tuple:
        return False
    if len(thing[1]) != 2 or not all(map(is_int, thing[1])) or not 0 <= thing[1][0] <= thing[1][1] or thing[1][1] < 1:
        return False
    chance = Fraction(*thing[1])
    one, other = [return_value(house.book(name), chance) for name in promise[1:]]
    return one < other


def plain(thing):
    """Whether a value has tuples, strings and integers alone."""
    if type(thing) is tuple:
        return all(map(plain, thing))
    return type(thing) is str or is_int(thing)


class Faults(Case):
    def test_faults_changed_in_one_place(self):
        house, model = house_and_model()
        seen = {}
        for promise in promises():
            fault = house.judged(promise)
            if fault == ("kept",) or seen.setdefault((promise[0], fault[0]), 0) > 3:
                continue
            seen[promise[0], fault[0]] += 1
            for thing in changes(fault):
                wanted = is_fault(house, model, promise, thing)
                self.assertIs(promise_fault_holds(house, promise, thing), wanted, (promise, thing))
        self.assertEqual(len(seen), 9)

    def test_any_right_number_of_worse(self):
        house, model = house_and_model()
        held = 0
        for one in BOOKS:
            for other in BOOKS:
                for thing in [("worse", (at, 16)) for at in range(17)] + [
                    ("worse", (10**38, 10**39)),
                    ("worse", (9, 8)),
                ]:
                    promise = ("never worse", one, other)
                    wanted = is_fault(house, model, promise, thing)
                    held += wanted
                    self.assert_call(wanted, promise_fault_holds, house=house, promise=promise, thing=thing)
        self.assertGreater(held, 100)

    def test_kept_promises_have_no_faults(self):
        house, _ = house_and_model()
        for promise in promises():
            if house.judged(promise) == ("kept",):
                things = [("kept",), ("misfit",), ("lost", ()), ("worse", (1, 2)), ("wide", 0), ("cut", 0), None]
                if promise[0] == "never worse":
                    one, other = [return_poly(table_of(house.book(name))) for name in promise[1:]]
                    things.append(judge_never_worse(one, other))
                for thing in things:
                    self.assertIs(promise_fault_holds(house, promise, thing), False)

    def test_any_other_values(self):
        house, _ = house_and_model()
        for promise in (
            ("mends", "wide", 8),
            ("within", "a", "twos"),
            ("never worse", "whole", "b"),
            ("memory", "wide", 0),
        ):
            self.assertNotEqual(house.judged(promise), ("kept",))
            for thing in any_values():
                if thing != ("misfit",):
                    self.assert_call(False, promise_fault_holds, house=house, promise=promise, thing=thing)


class Guarded(Case):
    """What promises do to changes and deals."""

    def test_first_promise_that_is_not_kept(self):
        house, _ = house_and_model()
        first, second, third = ("mends", "a", 1), ("within", "a", "whole"), ("narrow", "a", (2, 0, 1), 1)
        house.deal(tuple(("promise", promise) for promise in (first, second, third)))
        for change, promise, fault in (
            (("row", "a", (1, 0, 0)), first, ("lost", (0,))),
            (("check", "whole", (1, 0, 0)), second, ("word", (1, 0, 1))),
            (("repeat", "a", 0), second, ("misfit",)),
            (("book", "whole", TWOS), second, ("misfit",)),
        ):
            self.assert_error(Unkept(promise, fault), house.change, change=change)
            self.assert_error(Unkept(promise, fault), house.deal, changes=(change,))
            self.assert_call((promise, fault), house.would, changes=(change,))
        house.deal((("release", first), ("release", second)))
        self.assert_error(Unkept(third, ("misfit",)), house.change, change=("repeat", "a", 0))
        self.assert_error(Unkept(third, ("misfit",)), house.change, change=("without", "a", (1,)))

    def test_a_book_with_a_promise_can_become_another_book(self):
        house, _ = house_and_model()
        house.change(("promise", ("mends", "a", 1)))
        house.change(("book", "a", Book(5, 2, ((1, 4),))))
        self.assert_error(errors.NameTaken("a"), house.change, change=("pair", "a", THINGS["p"]))
        self.assert_error(errors.InUse("a"), house.change, change=("drop", "a"))
        self.assert_same(house.promises(), (("mends", "a", 1),))

    def test_names_in_promises(self):
        house, _ = house_and_model()
        given = [
            ("narrow", "twos", (0, 2, 1, 3), 1),
            ("within", "a", "whole"),
            ("never worse", "b", "b"),
            ("opens", "p", 3),
        ]
        house.deal(tuple(("promise", promise) for promise in given))
        for name in ("twos", "a", "whole", "b", "p"):
            self.assert_error(errors.InUse(name), house.change, change=("drop", name))
        for name, other in (("twos", "narrow"), ("a", "mends"), ("whole", "within"), ("b", "never"), ("p", "opens")):
            house.change(("rename", name, other))
        wanted = (("narrow", "narrow", (0, 2, 1, 3), 1), ("within", "mends", "within"))
        wanted += (("never worse", "never", "never"), ("opens", "opens", 3))
        self.assert_same(house.promises(), wanted)
        for promise in wanted:
            self.assert_call(("kept",), house.judged, promise=promise)
            house.change(("release", promise))
        for name in ("narrow", "mends", "within", "never", "opens"):
            house.change(("drop", name))

    def test_equal_promises_are_given_once(self):
        house, _ = house_and_model()
        house.change(("promise", ("mends", "a", 1)))
        again = ("men" + "ds", "a", int("1"))
        self.assert_error(BadPromise(again), house.change, change=("promise", again))
        self.assert_error(
            errors.NoPromise(("mends", "a", True)), house.change, change=("release", ("mends", "a", True))
        )
        house.change(("promise", ("mends", "a", 0)))
        house.change(("release", again))
        self.assert_same(house.promises(), (("mends", "a", 0),))


class EightPlaces(Case):
    def test_twelve_promises_about_twenty_names(self):
        house = House()
        rows = [tuple(map(int, text)) for text in ("11110000", "00111100", "00001111", "01010101")]
        codes = [Book(2, 8, tuple(rows[: 1 + at % 4])) for at in range(14)]
        for at, book in enumerate(codes):
            house.change(("book", "book" + "abcdefghijklmn"[at], book))
        for at in range(4):
            house.change(("pair", "pair" + "abcd"[at], Pair(codes[3], codes[at % 3])))
        seven = Book(3, 7, ((1, 1, 1, 0, 0, 0, 2), (0, 0, 1, 1, 1, 0, 0)))
        house.deal((("book", "seven", seven), ("book", "eight", Book(5, 8, ((1, 2, 3, 4, 1, 2, 3, 4),)))))
        self.assertEqual(len(house.names()), 20)
        given = [("mends", "booka", 1), ("within", "booka", "bookd"), ("narrow", "bookd", (0, 1, 2, 3, 4, 5, 6, 7), 4)]
        given += [
            ("memory", "seven", 2),
            ("hides", "paira", 0),
            ("opens", "paira", 8),
            ("never worse", "booka", "bookb"),
        ]
        given += [("never worse", "eight", "booka"), ("within", "bookb", "bookc"), ("mends", "eight", 7)]
        given += [("opens", "pairb", 7), ("narrow", "eight", (7, 6, 5, 4, 3, 2, 1, 0), 1)]
        house.deal(tuple(("promise", promise) for promise in given))
        self.assert_same(house.promises(), tuple(given))
        house.deal(
            (
                ("turn", "eight", (1, 0, 2, 3, 4, 5, 6, 7), (1, 2, 3, 4, 1, 2, 3, 4)),
                ("mirror", "seven"),
                ("row", "bookc", rows[3]),
            )
        )
        wide = ("within", "booka", "bookd")
        self.assert_error(Unkept(wide, ("word", rows[0])), house.change, change=("book", "bookd", Book(2, 8, ())))
        self.assert_same(House.read(str(house)), house)


if __name__ == "__main__":
    unittest.main()
