"""mirrorbook/house.py: [8.4] Changes, each with its effect and its errors in their order."""

import unittest
from random import Random

from mirrorbook import errors
from mirrorbook.books import Book
from mirrorbook.errors import BadChange, BookError
from mirrorbook.house import House
from mirrorbook.pairs import Pair
from tests import brute, housing, sealing
from tests.housing import Model, Refused
from tests.samples import Case, any_values, is_int, is_letters, is_places, others, random_rows, same

EVEN = Book(2, 3, ((1, 1, 0), (0, 1, 1)))
ONES = Book(2, 3, ((1, 1, 1),))
WHOLE = Book(2, 3, ((1, 0, 0), (0, 1, 0), (0, 0, 1)))
THREES = Book(3, 2, ((1, 2),))
EIGHT = Book(2, 8, ((1, 1, 1, 1, 0, 0, 0, 0), (0, 0, 1, 1, 1, 1, 0, 1)))
P = Pair(WHOLE, ONES)
NAMES = ("a", "b", "c", "d", "zz")
KINDS = tuple(housing.SIZES)


def house_and_model():
    """A house with books and pairs, and the model of it."""
    house, model = House(), Model()
    for change in (
        ("book", "a", EVEN),
        ("book", "b", WHOLE),
        ("book", "c", THREES),
        ("book", "eight", EIGHT),
        ("pair", "p", P),
        ("promise", ("within", "a", "b")),
        ("promise", ("mends", "a", 1)),
    ):
        house.change(change)
        model.change(change)
    return house, model


def drawn_word(random, q, n):
    """Mostly a word, sometimes something else."""
    many = n + random.choice((0,) * 12 + (1, -1))
    return tuple(random.randrange(q + (random.random() < 0.02)) for _ in range(max(many, 0)))


def drawn_places(random, n):
    return tuple(place for place in range(n + (random.random() < 0.05)) if random.random() < 0.3)


def drawn_change(random, model):
    """A change that can be made more often than not."""
    kind = random.choice(("book", "seal", "share", *KINDS))
    name = random.choice(sorted(model.things) or NAMES) if random.random() < 0.9 else random.choice(NAMES)
    new = random.choice((*NAMES, "Bad", "", "ninenines"))
    one = model.things.get(name, (2, 2, frozenset()))
    q, n = one[:2]
    if kind == "book":
        q, n = random.choice((2, 2, 3)), random.randrange(1, 4)
        return (kind, new, Book(q, n, random_rows(random, q, n, 2)))
    if kind == "pair":
        q, n = random.choice((2, 3)), random.randrange(1, 4)
        big, small = sealing.drawn_rows(random, q, n)
        return (kind, new, Pair(Book(q, n, big), Book(q, n, small)))
    if kind in ("drop", "mirror"):
        return (kind, name)
    if kind == "rename":
        return (kind, name, new)
    if kind in ("row", "check"):
        return (kind, name, drawn_word(random, q, n))
    if kind == "place":
        rank = len(housing.rows_of(one)) if len(one) == 3 and one[2] else n
        return (kind, name, drawn_word(random, q, rank))
    if kind in ("without", "fixed"):
        return (kind, name, drawn_places(random, n))
    if kind == "repeat":
        return (kind, name, random.randrange(n + (random.random() < 0.1)))
    if kind == "turn":
        factors = tuple(random.randrange(random.random() > 0.1, q) for _ in range(n))
        return (kind, name, tuple(random.sample(range(n), n)), factors)
    if kind == "seal":
        books = [other for other in sorted(model.things) if len(model.things[other]) == 3]
        fit = [(big, small) for big in books for small in books if is_less(model.things[small], model.things[big])]
        if fit and random.random() < 0.7:
            return (kind, *random.choice(fit), new)
        return (kind, name, random.choice(sorted(model.things) or NAMES), new)
    if kind == "share":
        return (kind, name, drawn_places(random, n), new)
    return (kind, drawn_promise(random, model, name))


def is_less(small, big):
    return small[:2] == big[:2] and small[2] < big[2]


def drawn_promise(random, model, name):
    kind = random.choice(("mends", "hides", "opens", "narrow", "memory", "within", "never worse"))
    if kind in housing.OF_TWO_BOOKS:
        return (kind, name, random.choice(sorted(model.things) or NAMES))
    if kind == "narrow":
        n = model.things.get(name, (2, 2))[1]
        return (kind, name, tuple(random.sample(range(n), n)), random.randrange(4))
    return (kind, name, random.randrange(4))


class Drawn(Case):
    def test_houses_without_promises_and_their_models(self):
        """Drawn changes, one after the other, all of which are held against listed words."""
        done = {kind: [0, 0] for kind in KINDS}
        for seed in range(60):
            random = Random(seed)
            house, model = House(), Model()
            for change in (("book", "a", EVEN), ("book", "b", WHOLE), ("book", "c", THREES), ("pair", "d", P)):
                self.make(house, model, change)
            for _ in range(40):
                change = drawn_change(random, model)
                if change[0] not in ("promise", "release"):
                    done[change[0]][self.make(house, model, change)] += 1
        for kind in KINDS[:-2]:
            refused, made = done[kind]
            self.assertTrue(made > 9 and (refused > 9 or kind in ("drop", "mirror")), (kind, refused, made))

    def make(self, house, model, change):
        """Makes a change of a house and of its model; returns whether it was done."""
        after = model.copy()
        try:
            after.change(change)
        except Refused as refused:
            before = house.copy()
            self.assert_error(refused.error, house.change, change=change)
            self.assert_error(BadChange(0), house.deal, changes=(change, change))
            self.assertTrue(house == before and house.deals() == before.deals())
            return False
        if after.things and max(one[1] for one in after.things.values()) > 5:
            return True
        self.assertIsNone(house.change(change))
        self.assertTrue(housing.same_house(house, after), change)
        model.things, model.promises = after.things, after.promises
        return True


class Effects(Case):
    """What each change does, at single places."""

    def after(self, *changes):
        house, model = house_and_model()
        for change in changes:
            house.change(change)
            model.change(change)
        self.assertTrue(housing.same_house(house, model))
        return house

    def test_book_and_pair(self):
        house = self.after(("book", "new", ONES), ("book", "c", WHOLE), ("pair", "p", Pair(EVEN, Book(2, 3, ()))))
        self.assert_same((house.book("new"), house.book("c")), (ONES, WHOLE))
        self.assert_same(house.names(), ("a", "b", "c", "eight", "new", "p"))
        self.assert_same(house.pair("p"), Pair(EVEN, Book(2, 3, ())))

    def test_drop_and_rename(self):
        self.assert_same(self.after(("drop", "c"), ("drop", "p")).names(), ("a", "b", "eight"))
        house = self.after(("rename", "a", "within"), ("rename", "p", "mends"))
        self.assert_same(house.names(), ("b", "c", "eight", "mends", "within"))
        self.assert_same(house.promises(), (("within", "within", "b"), ("mends", "within", 1)))
        self.assert_same(
            self.after(("rename", "c", "eightabc"), ("drop", "p")).names(), ("a", "b", "eight", "eightabc")
        )
        self.assert_same(self.after(("rename", "c", "azazazaz"), ("book", "z", ONES)).names()[-1], "z")
        house = self.after(("rename", "a", "mends"), ("rename", "b", "a"), ("rename", "mends", "b"))
        self.assert_same(house.promises(), (("within", "b", "a"), ("mends", "b", 1)))

    def test_row_and_check(self):
        self.assert_same(self.after(("row", "c", (0, 1))).book("c"), Book(3, 2, ((1, 0), (0, 1))))
        self.assert_same(self.after(("row", "c", (2, 1))).book("c"), THREES)
        self.assert_same(self.after(("check", "b", (0, 0, 0))).book("b"), WHOLE)
        self.assert_same(self.after(("check", "c", (1, 0))).book("c"), Book(3, 2, ()))
        self.assert_same(self.after(("check", "c", (1, 1))).book("c"), THREES)

    def test_place(self):
        self.assert_same(self.after(("place", "c", (2,))).book("c"), Book(3, 3, ((1, 2, 2),)))
        self.assert_same(self.after(("check", "c", (1, 0)), ("place", "c", ())).book("c"), Book(3, 3, ()))

    def test_without_fixed_repeat_turn(self):
        self.assert_same(self.after(("without", "c", (0,))).book("c"), Book(3, 1, ((1,),)))
        self.assert_same(self.after(("without", "c", ())).book("c"), THREES)
        self.assert_same(self.after(("fixed", "c", (0,))).book("c"), Book(3, 1, ()))
        self.assert_same(self.after(("repeat", "c", 1)).book("c"), Book(3, 3, ((1, 2, 2),)))
        self.assert_same(self.after(("turn", "c", (1, 0), (2, 1))).book("c"), Book(3, 2, ((1, 1),)))

    def test_mirror(self):
        self.assert_same(self.after(("mirror", "c")).book("c"), Book(3, 2, ((1, 1),)))
        self.assert_same(self.after(("mirror", "p")).pair("p"), Pair(EVEN, Book(2, 3, ())))

    def test_seal_and_share(self):
        house = self.after(("seal", "b", "a", "new"), ("seal", "b", "a", "p"))
        self.assert_same((house.pair("new"), house.pair("p")), (Pair(WHOLE, EVEN), Pair(WHOLE, EVEN)))
        house = self.after(("share", "a", (1,), "new"), ("share", "a", (0,), "p"))
        self.assert_same(house.pair("new"), Pair(Book(2, 2, ((1, 0), (0, 1))), Book(2, 2, ((1, 1),))))

    def test_pairs_do_not_change_with_their_books(self):
        house = self.after(("seal", "b", "a", "new"))
        house.change(("row", "b", (1, 1, 1)))
        house.change(("mirror", "c"))
        house.change(("release", ("within", "a", "b")))
        house.change(("without", "b", (1,)))
        house.change(("drop", "b"))
        self.assert_same(house.pair("new"), Pair(WHOLE, EVEN))

    def test_promise_and_release(self):
        house = self.after(("promise", ("hides", "p", 1)), ("release", ("within", "a", "b")))
        self.assert_same(house.promises(), (("mends", "a", 1), ("hides", "p", 1)))
        house = self.after(("release", ("within", "a", "b")), ("promise", ("within", "a", "b")))
        self.assert_same(house.promises(), (("mends", "a", 1), ("within", "a", "b")))

    def test_what_was_told_before_stays_as_it_was(self):
        house = self.after()
        book, pair, promises, names = house.book("c"), house.pair("p"), house.promises(), house.names()
        for change in (("row", "c", (0, 1)), ("mirror", "p"), ("rename", "a", "x"), ("turn", "c", (1, 0), (1, 2))):
            house.change(change)
        self.assert_same((book.rows, book.q, book.n), (((1, 2),), 3, 2))
        self.assert_same((pair, names), (P, ("a", "b", "c", "eight", "p")))
        self.assert_same(promises, (("within", "a", "b"), ("mends", "a", 1)))


def no_names(*names):
    return [
        thing for thing in any_values() + ["x", "A", ("a",), "a ", "\n"] if not (type(thing) is str and thing in names)
    ]


BAD_NAMES = ["", "A", "a b", "a1", "ninenines", "e-", "a\n", *others(housing.is_name)]


class Errors(Case):
    """The errors of each change, in their order: each wrong item ahead of the later ones."""

    def assert_change(self, change, checks):
        """The checks are triples (number of an item, error, wrong values), as in `assert_errors`."""
        house, model = house_and_model()
        before = house.copy()
        for at, (number, error, wrong) in enumerate(checks):
            for many, thing in enumerate(wrong):
                one = exchanged(change, number, thing)
                self.assert_refused(house, model, one, error(thing))
                for other, _, values in checks[at + 1 :]:
                    one = exchanged(one, other, values[many % len(values)])
                    self.assert_refused(house, model, one, error(thing))
        self.assertTrue(house == before and house.deals() == before.deals())

    def assert_refused(self, house, model, change, error):
        self.assert_raised(error, lambda: house.change(change), change)
        self.assert_raised(BadChange(0), lambda: house.deal((change,)), change)
        self.assert_raised(BadChange(0), lambda: house.would((change,)), change)
        try:
            model.copy().change(change)
        except Refused as refused:
            self.assertTrue(same(refused.error, error))
            return
        self.fail(f"{change!r} is not refused")

    def test_book_and_pair(self):
        self.assert_change(("book", "x", EVEN), [(1, errors.BadName, BAD_NAMES)])
        self.assert_change(("pair", "x", P), [(1, errors.BadName, BAD_NAMES)])
        self.assert_change(("book", "p", EVEN), [(1, errors.NameTaken, ["p"])])
        self.assert_change(("pair", "a", P), [(1, errors.NameTaken, ["a", "eight"])])

    def test_drop(self):
        self.assert_change(("drop", "c"), [(1, errors.NoName, no_names("a", "b", "c", "eight", "p"))])
        self.assert_change(("drop", "c"), [(1, errors.InUse, ["a", "b"])])

    def test_rename(self):
        names = no_names("a", "b", "c", "eight", "p")
        taken = ["a", "b", "c", "eight", "p"]
        self.assert_change(("rename", "c", "x"), [(1, errors.NoName, names), (2, errors.BadName, BAD_NAMES)])
        self.assert_change(("rename", "c", "x"), [(1, errors.NoName, names), (2, errors.NameTaken, taken)])
        self.assert_change(("rename", "a", "x"), [(2, errors.NameTaken, taken)])

    def test_changes_of_books(self):
        names = (1, errors.NoName, no_names("a", "b", "c", "eight"))
        words = others(lambda thing: is_letters(3, thing) and len(thing) == 2) + [(1, 2, 0), (1,), (3, 0), [1, 2]]
        letters = others(lambda thing: is_letters(3, thing) and len(thing) == 1) + [(), (3,), (0, 0), (True,)]
        sets = others(lambda thing: is_places(2, thing) and len(thing) < 2) + [(0, 1), (2,), (1, 0)]
        places = others(lambda thing: is_int(thing) and 0 <= thing < 2)
        orders = others(lambda thing: is_letters(2, thing) and sorted(thing) == [0, 1]) + [(0, 1, 2), (0,), (1, 1)]
        factors = [thing for thing in words if type(thing) is not tuple or thing != (1, 1)] + [(0, 1), (1, 0), (0, 0)]
        for kind in ("row", "check"):
            self.assert_change((kind, "c", (1, 1)), [names, (2, errors.BadWord, words)])
        self.assert_change(("place", "c", (1,)), [names, (2, errors.BadWord, letters)])
        for kind in ("without", "fixed"):
            self.assert_change((kind, "c", (1,)), [names, (2, errors.BadSet, sets)])
        self.assert_change(("repeat", "c", 1), [names, (2, errors.BadPlace, places)])
        checks = [names, (2, errors.BadOrder, orders), (3, errors.BadWord, factors)]
        self.assert_change(("turn", "c", (1, 0), (1, 2)), checks)
        names = (1, errors.NoName, no_names("a", "b", "c", "eight", "p"))
        self.assert_change(("mirror", "c"), [names])

    def test_names_of_pairs_are_no_names_of_books(self):
        for change in (
            ("row", "p", (1, 1, 1)),
            ("check", "p", (1, 1, 1)),
            ("place", "p", (1,)),
            ("without", "p", (0,)),
            ("fixed", "p", (0,)),
            ("repeat", "p", 0),
            ("turn", "p", (0, 1, 2), (1, 1, 1)),
            ("share", "p", (0,), "x"),
            ("seal", "p", "a", "x"),
            ("seal", "p", "p", "BAD"),
        ):
            self.assert_change(change, [(1, errors.NoName, ["p"])])
        self.assert_change(("seal", "b", "p", "BAD"), [(2, errors.NoName, ["p"])])

    def test_eight_places(self):
        house, model = house_and_model()
        for letters in ((1, 1), (1,), None, (0,) * 9):
            self.assert_refused(house, model, ("place", "eight", letters), errors.BadPlaces(9))
        for place in range(8):
            self.assert_refused(house, model, ("repeat", "eight", place), errors.BadPlaces(9))
        for place in (8, -1, True, None):
            self.assert_refused(house, model, ("repeat", "eight", place), errors.BadPlace(place))

    def test_seal(self):
        names = no_names("a", "b", "c", "eight")
        taken, bad = (3, errors.NameTaken, ["a", "b", "eight"]), (3, errors.BadName, BAD_NAMES)
        for last in (taken, bad):
            self.assert_change(("seal", "b", "a", "x"), [(1, errors.NoName, names), (2, errors.NoName, names), last])
        house, model = house_and_model()
        for name in ("x", "a", "BAD", None):
            self.assert_refused(house, model, ("seal", "a", "c", name), errors.OtherFields())
            self.assert_refused(house, model, ("seal", "a", "eight", name), errors.OtherPlaces())
            self.assert_refused(house, model, ("seal", "a", "b", name), errors.NotWithin((1, 0, 0)))
            self.assert_refused(house, model, ("seal", "a", "a", name), errors.NoMessage())

    def test_share(self):
        names = (1, errors.NoName, no_names("a", "b", "c", "eight"))
        wrong = others(lambda thing: is_places(3, thing) and 0 < len(thing) < 3) + [(), (0, 1, 2), (3,), (1, 0)]
        sets = (2, errors.BadSet, wrong)
        for last in ((3, errors.NameTaken, ["a", "b", "eight"]), (3, errors.BadName, BAD_NAMES)):
            self.assert_change(("share", "a", (1,), "x"), [names, sets, last])
        house, model = house_and_model()
        for name in ("x", "a", "BAD", None):
            # A place that tells nothing of the others deals no message.
            self.assert_refused(house, model, ("share", "b", (1,), name), errors.NoMessage())

    def test_promise_and_release(self):
        house, model = house_and_model()
        given = [("within", "a", "b"), ("mends", "a", 1)]
        near = [["mends", "a", 1], ("mends", "a", True), ("mends", "p", 1), ("mends", "x", 1), ("mends", "a", 9)]
        near += [("mends", "a"), ("mends", "a", 1, 1), ("within", "a", "p"), ("within", ["a"], "b"), ("within", "a")]
        for promise in [*near, *any_values(), *given]:
            self.assert_refused(house, model, ("promise", promise), errors.BadPromise(promise))
        for promise in [*near, *any_values(), ("mends", "a", 0), ("within", "b", "a"), ("hides", "p", 1)]:
            self.assert_refused(house, model, ("release", promise), errors.NoPromise(promise))


def exchanged(change, number, thing):
    return change[:number] + (thing,) + change[number + 1 :]


CHANGES = (
    ("book", "x", EVEN),
    ("pair", "x", P),
    ("drop", "c"),
    ("rename", "a", "x"),
    ("row", "c", (1, 0)),
    ("check", "c", (1, 0)),
    ("place", "c", (1,)),
    ("without", "c", (1,)),
    ("fixed", "c", (1,)),
    ("repeat", "c", 1),
    ("turn", "c", (1, 0), (1, 2)),
    ("mirror", "c"),
    ("seal", "b", "a", "x"),
    ("share", "a", (1,), "x"),
    ("promise", ("hides", "p", 1)),
    ("release", ("mends", "a", 1)),
)


class Forms(Case):
    """Values that are no changes at all."""

    def test_each_change_can_be_made(self):
        self.assertEqual([change[0] for change in CHANGES], list(KINDS))
        for change in CHANGES:
            house, model = house_and_model()
            model.change(change)
            self.assertIsNone(house.change(change=change))
            self.assertTrue(housing.same_house(house, model))

    def assert_no_change(self, house, thing):
        self.assertFalse(housing.is_change(thing))
        for call, named in (
            (house.change, {"change": thing}),
            (house.deal, {"changes": (thing,)}),
            (house.would, {"changes": (thing,)}),
        ):
            self.assert_error(BadChange(0), call, **named)
        self.assert_error(BadChange(1), house.deal, changes=(("book", "x", EVEN), thing, ("drop", "nobody")))

    def test_one_item_more_or_less(self):
        house, _ = house_and_model()
        before = house.copy()
        for change in CHANGES:
            for thing in (change[:-1], change + (change[-1],), change + ((),), list(change), (change,), change[0]):
                self.assert_no_change(house, thing)
            self.assert_no_change(house, change[:1] if len(change) > 1 else ())
        self.assertTrue(house == before and house.deals() == before.deals())

    def test_kinds_that_are_none(self):
        house, _ = house_and_model()
        for kind in [*others(lambda thing: type(thing) is str and thing in KINDS), "Book", "better", "narrow", "undo"]:
            for rest in (("a",), ("a", "b"), ("a", EVEN), ("a", (1, 0), (1, 0))):
                self.assert_no_change(house, (kind, *rest))

    def test_books_and_pairs_are_needed_where_they_are_named(self):
        house, _ = house_and_model()
        for thing in others(lambda thing: type(thing) is Book):
            self.assert_no_change(house, ("book", "x", thing))
            self.assert_no_change(house, ("book", "BAD", thing))
        for thing in others(lambda thing: type(thing) is Pair):
            self.assert_no_change(house, ("pair", "x", thing))
            self.assert_no_change(house, ("pair", None, thing))

    def test_any_values(self):
        house, _ = house_and_model()
        for thing in any_values():
            self.assert_no_change(house, thing)

    def test_any_values_in_the_place_of_each_item(self):
        """What is a change by its form is refused with its own error, or made."""
        for change in CHANGES:
            for at in range(1, len(change)):
                for thing in any_values():
                    one = exchanged(change, at, thing)
                    house, model = house_and_model()
                    before = house.copy()
                    if not housing.is_change(one):
                        self.assert_error(BadChange(0), house.change, change=one)
                        continue
                    try:
                        model.change(one)
                    except Refused as refused:
                        self.assert_error(refused.error, house.change, change=one)
                        self.assertTrue(house == before)
                        continue
                    try:
                        house.change(one)
                        self.assertTrue(housing.same_house(house, model))
                    except BookError as error:
                        self.assertIs(type(error), errors.Unkept)


class WorkedOut(Case):
    """The examples of the document."""

    def setUp(self):
        self.house = House()
        self.house.change(("book", "e", EVEN))
        self.house.change(("promise", ("mends", "e", 1)))

    def test_a_place_that_mends(self):
        self.house.change(("place", "e", (1, 0)))
        words = brute.span(2, 4, self.house.book("e").rows)
        self.assertEqual(words, {(0, 0, 0, 0), (1, 0, 1, 1), (0, 1, 1, 0), (1, 1, 0, 1)})
        self.house.undo()
        self.house.change(("fixed", "e", (0,)))
        self.assert_same(self.house.book("e"), Book(2, 2, ((1, 1),)))

    def test_a_row_that_breaks_a_promise(self):
        wanted = errors.Unkept(("mends", "e", 1), ("lost", (0,)))
        self.assert_error(wanted, self.house.change, change=("row", "e", (1, 1, 1)))
        self.assert_same(self.house.book("e"), EVEN)


if __name__ == "__main__":
    unittest.main()
