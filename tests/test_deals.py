"""mirrorbook/house.py: [8.4] Deals, [8.5] Undone, done again, copies, `==` and `!=`."""

import unittest
from random import Random

from mirrorbook import errors
from mirrorbook.books import Book
from mirrorbook.errors import BadChange, BookError, NoName, NothingToRedo, NothingToUndo, Unkept
from mirrorbook.house import House
from mirrorbook.pairs import Pair
from tests import housing
from tests.housing import Model, Refused
from tests.samples import Case, any_values, filled_house, others
from tests.test_changes import drawn_change, drawn_promise

EVEN = Book(2, 3, ((1, 1, 0), (0, 1, 1)))
ONES = Book(2, 3, ((1, 1, 1),))
WHOLE = Book(2, 3, ((1, 0, 0), (0, 1, 0), (0, 0, 1)))
P = Pair(WHOLE, ONES)
GIVEN = [("within", "e", "w"), ("opens", "p", 3), ("hides", "p", 1), ("memory", "w", 0), ("narrow", "e", (0, 1, 2), 1)]


def start():
    house = House()
    house.deal((("book", "e", EVEN), ("book", "w", WHOLE), ("pair", "p", P), ("promise", ("mends", "e", 1))))
    return house


def all_told(house):
    """All that a house tells of itself."""
    things = []
    for name in house.names():
        try:
            things.append(house.book(name))
        except NoName:
            things.append(house.pair(name))
    return (house.names(), things, house.promises(), house.deals(), str(house))


class Started(Case):
    def test_a_house_without_anything(self):
        house = House()
        self.assert_same(all_told(house), ((), [], (), (), "house"))
        self.assert_error(NothingToUndo(), house.undo)
        self.assert_error(NothingToRedo(), house.redo)
        self.assert_call(None, house.would, changes=())

    def test_names_of_books_and_pairs(self):
        house = start()
        self.assert_call(("e", "p", "w"), house.names)
        self.assert_call(EVEN, house.book, name="e")
        self.assert_call(P, house.pair, name="p")
        for name in [*others(lambda thing: type(thing) is str and thing in ("e", "w")), "p", "x", ("e",)]:
            self.assert_error(NoName(name), house.book, name=name)
        for name in [*others(lambda thing: thing == "p"), "e", "w", "x", ["p"]]:
            self.assert_error(NoName(name), house.pair, name=name)

    def test_what_returns_nothing(self):
        house = start()
        self.assertIsNone(house.deal((("drop", "w"),)))
        self.assertIsNone(house.deal(changes=()))
        self.assertIsNone(house.change(change=("mirror", "p")))
        self.assertIsNone(house.undo())
        self.assertIsNone(house.redo())


class Deals(Case):
    def test_changes_one_after_the_other(self):
        house = start()
        changes = (
            ("rename", "w", "x"),
            ("book", "w", ONES),
            ("seal", "x", "w", "q"),
            ("drop", "x"),
            ("mirror", "w"),
            ("promise", ("within", "w", "e")),
            ("promise", ("opens", "q", 3)),
        )
        house.deal(changes)
        self.assert_same(house.names(), ("e", "p", "q", "w"))
        self.assert_same((house.book("w"), house.pair("q")), (EVEN, P))
        self.assert_same(house.promises(), (("mends", "e", 1), ("within", "w", "e"), ("opens", "q", 3)))
        self.assertEqual(house.deals()[-1], changes)

    def test_promises_may_be_broken_in_the_midst(self):
        house = start()
        broken = (("row", "e", (1, 1, 1)), ("check", "e", (1, 1, 1)))
        self.assert_error(Unkept(("mends", "e", 1), ("lost", (0,))), house.change, change=broken[0])
        self.assert_call(None, house.would, changes=broken)
        house.deal(broken)
        self.assert_same(house.book("e"), EVEN)
        house.deal((("promise", ("mends", "w", 1)), ("release", ("mends", "w", 1))))
        house.deal((("promise", ("narrow", "e", (0, 1), 0)), ("release", ("narrow", "e", (0, 1), 0))))
        house.deal((("row", "e", (1, 1, 1)), ("release", ("mends", "e", 1))))
        self.assert_same((house.book("e"), house.promises()), (WHOLE, ()))

    def test_no_deals(self):
        house = start()
        before = all_told(house)
        for changes in others(lambda thing: type(thing) is tuple):
            self.assert_error(BadChange(-1), house.deal, changes=changes)
            self.assert_error(BadChange(-1), house.would, changes=changes)
        self.assert_same(all_told(house), before)

    def test_the_number_of_the_first_wrong_change(self):
        house = start()
        before = all_told(house)
        right = (("mirror", "w"), ("rename", "p", "q"), ("book", "x", ONES), ("repeat", "x", 0), ("drop", "x"))
        wrong = [("drop", "p"), ("drop", "e"), ("book", "Q", ONES), ("book", "q", ONES), ("row", "x", (1, 1))]
        wrong += [("promise", ("mends", "e", 1)), ("release", ("mends", "w", 1)), ("mirror",), *any_values()]
        self.assertIsNone(house.copy().deal(right))
        for thing in wrong:
            for at in range(2, 6):
                changes = right[:at] + (thing,) + right[at:]
                self.assert_error(BadChange(at), house.deal, changes=changes)
                self.assert_error(BadChange(at), house.would, changes=changes)
        self.assert_same(all_told(house), before)
        # Names and promises that a change has made, or taken away, are met by the later ones.
        self.assert_error(BadChange(1), house.deal, changes=(("drop", "w"), ("mirror", "w")))
        self.assert_error(BadChange(0), house.deal, changes=(("mirror", "x"), ("book", "x", ONES)))
        given = (("promise", ("mends", "e", 0)), ("promise", ("mends", "e", 0)))
        self.assert_error(BadChange(1), house.deal, changes=given)
        self.assert_error(BadChange(0), house.deal, changes=(("drop", "e"), ("release", ("mends", "e", 1))))
        self.assertIsNone(house.deal((("release", ("mends", "e", 1)), ("drop", "e"))))

    def test_wrong_changes_come_before_broken_promises(self):
        house = start()
        self.assert_error(BadChange(1), house.deal, changes=(("row", "e", (1, 1, 1)), ("drop", "nobody")))
        self.assert_error(BadChange(1), house.would, changes=(("row", "e", (1, 1, 1)), ("drop", "nobody")))

    def test_the_first_promise_in_the_order_in_which_they_were_given(self):
        house = start()
        house.deal((("release", ("mends", "e", 1)), ("promise", ("within", "e", "w")), ("promise", ("mends", "e", 1))))
        changes = (("row", "e", (1, 1, 1)), ("check", "w", (1, 1, 1)))
        promise, fault = ("within", "e", "w"), ("word", (1, 0, 0))
        self.assert_error(Unkept(promise, fault), house.deal, changes=changes)
        self.assert_call((promise, fault), house.would, changes=changes)
        self.assert_error(Unkept(("mends", "e", 1), ("lost", (0,))), house.deal, changes=changes[:1])

    def test_deals_that_are_told(self):
        house, changes = House(), (("book", "e", EVEN), ("promise", ("narrow", "e", (2, 0, 1), 1)))
        house.deal(changes)
        house.change(("turn", "e", (1, 0, 2), (1, 1, 1)))
        house.deal(())
        self.assert_same(house.deals(), (changes, (("turn", "e", (1, 0, 2), (1, 1, 1)),), ()))
        again = House()
        for deal in house.deals():
            again.deal(deal)
        self.assertTrue(again == house and again.deals() == house.deals())

    def test_deals_with_equal_values(self):
        house = start()
        rows = tuple(tuple(int(letter) for letter in text) for text in ("110", "011"))
        house.deal((("book", "".join(["n", "ew"]), Book(2, 3, rows)),))
        self.assertEqual(house.deals()[-1], (("book", "new", EVEN),))
        self.assertEqual(house.deals(), start().deals() + ((("book", "new", EVEN),),))

    def test_twelve_changes(self):
        house = House()
        changes = tuple(("book", name, Book(2, 8, ((1,) * 8, (0, 1) * 4))) for name in "abcdef")
        changes += (("seal", "a", "b", "x"),)
        self.assert_error(BadChange(6), house.deal, changes=changes)
        changes = changes[:6] + tuple(("check", name, (1,) + (0,) * 7) for name in "abc")
        changes += (("seal", "d", "a", "x"), ("promise", ("within", "a", "d")), ("mirror", "x"))
        self.assertEqual(len(changes), 12)
        self.assert_call(None, house.would, changes=changes)
        house.deal(changes)
        self.assertEqual(len(house.names()), 7)


class UndoneAndDoneAgain(Case):
    def test_deals_in_their_order(self):
        house, seen = House(), []
        seen.append(all_told(house))
        for change in (("book", "e", EVEN), ("promise", ("mends", "e", 1)), ("rename", "e", "x"), ("mirror", "x")):
            try:
                house.change(change)
            except Unkept:
                house.deal(())
            seen.append(all_told(house))
        for _ in range(2):
            for told in seen[-2::-1]:
                house.undo()
                self.assert_same(all_told(house), told)
            self.assert_error(NothingToUndo(), house.undo)
            for told in seen[1:]:
                house.redo()
                self.assert_same(all_told(house), told)
            self.assert_error(NothingToRedo(), house.redo)

    def test_another_deal_in_between(self):
        for deal in ((), (("drop", "w"),), (("promise", ("mends", "e", 0)),)):
            house = start()
            house.change(("mirror", "w"))
            house.change(("mirror", "p"))
            house.undo()
            house.undo()
            house.deal(deal)
            self.assert_error(NothingToRedo(), house.redo)
            self.assertEqual(house.deals()[1:], (deal,))
            house.undo()
            house.redo()
            self.assertEqual(house.deals()[1:], (deal,))

    def test_what_fails_or_asks_is_no_deal_in_between(self):
        house = start()
        house.change(("mirror", "w"))
        after = all_told(house)
        house.undo()
        for call in (
            lambda: house.change(("drop", "nobody")),
            lambda: house.change(None),
            lambda: house.change(("row", "e", (1, 1, 1))),
            lambda: house.deal((("mirror", "w"), ("drop", "nobody"))),
            lambda: house.deal([]),
            lambda: house.deal((("row", "e", (1, 1, 1)),)),
            lambda: house.would((("row", "e", (1, 1, 1)),)),
            lambda: house.would((("mirror", "p"),)),
            lambda: house.book("x"),
            lambda: house.judged(None),
        ):
            try:
                call()
            except BookError:
                pass
        house.redo()
        self.assert_same(all_told(house), after)

    def test_drawn_deals(self):
        """Drawn deals, undone and done again at random, held against a list of all states."""
        done = 0
        for seed in range(30):
            random = Random(200 + seed)
            house, states, at = start(), [], 0
            house_states(house, states)
            for _ in range(50):
                choice = random.random()
                if choice < 0.2 and at > 0:
                    house.undo()
                    at -= 1
                elif choice < 0.4 and at < len(states) - 1:
                    house.redo()
                    at += 1
                else:
                    at = self.deal(random, house, states, at)
                self.assert_same(all_told(house), states[at])
                done = max(done, at)
        self.assertGreater(done, 8)

    def deal(self, random, house, states, at):
        model = model_of(house)
        changes = []
        for _ in range(random.randrange(3)):
            change = (
                drawn_change(random, model) if random.random() < 0.6 else ("promise", drawn_promise(random, model, "e"))
            )
            changes.append(change)
        before = all_told(house)
        try:
            house.deal(tuple(changes))
        except BookError:
            self.assert_same(all_told(house), before)
            return at
        if max([0, *[one[1] for one in model_of(house).things.values()]]) > 4:
            house.undo()
            del states[at + 1 :]
            return at
        del states[at + 1 :]
        states.append(all_told(house))
        return at + 1


def house_states(house, states):
    states.append(all_told(house))


def model_of(house):
    names, things, promises, _, _ = all_told(house)
    return Model({name: housing.listed(thing) for name, thing in zip(names, things)}, promises)


class Drawn(Case):
    def test_deals_and_models(self):
        """Drawn deals with promises, held against the model: the first wrong change, or the first broken promise."""
        met = {"done": 0, "wrong": 0, "unkept": 0}
        for seed in range(100):
            random = Random(300 + seed)
            house = start()
            for promise in random.sample(GIVEN, 3):
                house.change(("promise", promise))
            model = model_of(house)
            for _ in range(25):
                after, changes, wanted = model.copy(), [], None
                for number in range(random.randrange(4)):
                    change = drawn_change(random, after)
                    if change[0] == "promise" and change[1][0] == "never worse":
                        continue
                    changes.append(change)
                    try:
                        if wanted is None:
                            after.change(change)
                    except Refused:
                        wanted = BadChange(len(changes) - 1)
                if max([0, *[one[1] for one in after.things.values()]]) > 4:
                    continue
                met[self.make(house, model, after, tuple(changes), wanted)] += 1
        self.assertGreater(min(met.values()), 100, met)

    def make(self, house, model, after, changes, wanted):
        before = all_told(house)
        if wanted is not None:
            self.assert_error(wanted, house.deal, changes=changes)
            self.assert_error(wanted, house.would, changes=changes)
            self.assert_same(all_told(house), before)
            return "wrong"
        faults = [(promise, after.fault(promise)) for promise in after.promises]
        unkept = [(promise, fault) for promise, fault in faults if fault is not None]
        self.assert_call(unkept[0] if unkept else None, house.would, changes=changes)
        if unkept:
            self.assert_error(Unkept(*unkept[0]), house.deal, changes=changes)
            self.assert_same(all_told(house), before)
            return "unkept"
        house.deal(changes)
        self.assertTrue(housing.same_house(house, after))
        self.assertEqual(house.deals()[-1], changes)
        model.things, model.promises = after.things, after.promises
        return "done"


class Copies(Case):
    def test_an_equal_house_with_the_same_deals(self):
        house = start()
        house.change(("mirror", "w"))
        house.change(("mirror", "p"))
        house.undo()
        found = house.copy()
        self.assertTrue(found == house and found is not house)
        self.assert_same(all_told(found), all_told(house))
        for one in (house, found):
            one.redo()
            self.assert_same(one.pair("p"), Pair(EVEN, Book(2, 3, ())))
            for _ in range(3):
                one.undo()
            self.assertEqual(one, House())

    def test_later_changes_do_not_reach_the_other_one(self):
        house = start()
        house.change(("mirror", "w"))
        found = house.copy()
        told = all_told(house)
        found.change(("drop", "p"))
        found.undo()
        found.undo()
        found.change(("rename", "e", "x"))
        self.assert_same(all_told(house), told)
        told = all_told(found)
        house.deal((("release", ("mends", "e", 1)), ("drop", "e")))
        house.undo()
        house.undo()
        self.assert_same(all_told(found), told)
        self.assert_error(NothingToRedo(), found.redo)
        house.redo()


class Equal(Case):
    def test_houses_with_the_same_things_and_promises(self):
        one, other = House(), House()
        one.deal((("book", "a", EVEN), ("book", "b", WHOLE)))
        other.change(("book", "b", Book(2, 3, ((1, 1, 1), (0, 1, 1), (0, 0, 1)))))
        self.assertTrue(one != other and not one == other)
        other.change(("book", "a", Book(2, 3, ((1, 0, 1), (1, 1, 0)))))
        self.assertTrue(one == other and not one != other)
        self.assertNotEqual(one.deals(), other.deals())
        one.deal((("promise", ("mends", "a", 1)), ("promise", ("within", "a", "b"))))
        other.deal((("promise", ("within", "a", "b")), ("promise", ("mends", "a", 1))))
        self.assertTrue(one != other and not one == other)
        for house in (one, other):
            house.change(("release", ("mends", "a", 1)))
        self.assertTrue(one == other and not one != other)

    def test_names_and_things_play_a_part(self):
        one = start()
        for change in (("rename", "w", "x"), ("mirror", "w"), ("mirror", "p"), ("drop", "p"), ("book", "x", EVEN)):
            other = start()
            other.change(change)
            self.assertTrue(one != other and not one == other)
        book, pair = House(), House()
        book.change(("book", "a", EVEN))
        pair.change(("pair", "a", P))
        self.assertFalse(book == pair or pair == book)

    def test_any_values(self):
        house = start()
        for thing in [*any_values(), str(house), EVEN, P, (house,)]:
            self.assertTrue(house != thing and not house == thing)
        self.assertEqual(filled_house(), filled_house())
        self.assertEqual(House(), House())


class Same(Case):
    def test_the_same_call_again(self):
        house = start()
        for call, named in (
            (house.would, {"changes": (("row", "e", (1, 1, 1)),)}),
            (house.would, {"changes": (("mirror", "p"),)}),
            (house.judged, {"promise": ("mends", "w", 1)}),
        ):
            found = call(**named)
            for _ in range(3):
                self.assert_call(found, call, **named)
        for _ in range(3):
            self.assert_error(errors.InUse("e"), house.change, change=("drop", "e"))
            self.assert_error(BadChange(0), house.deal, changes=(("drop", "e"),))


if __name__ == "__main__":
    unittest.main()
