"""The texts of houses: [8.6], `str(house)` and `House.read`."""

import unittest
from random import Random

from mirrorbook.books import Book
from mirrorbook.errors import BadText, BookError
from mirrorbook.house import House
from mirrorbook.pairs import Pair
from tests import housing, writing
from tests.samples import Case, any_values, others
from tests.test_changes import drawn_change
from tests.writing import HouseText

EVEN = Book(2, 3, ((1, 1, 0), (0, 1, 1)))
ONES = Book(2, 3, ((1, 1, 1),))
WHOLE = Book(2, 3, ((1, 0, 0), (0, 1, 0), (0, 0, 1)))
P = Pair(WHOLE, ONES)
# Names that are words of these texts.
WORDS = ("better", "book", "hides", "house", "memory", "mends", "narrow", "opens", "pair", "within")
LINES = (
    "",
    "hides",
    "hides ",
    "house",
    "book x",
    "book hides",
    "pair x",
    "pair A",
    "book",
    "book 2 3",
    "0 1 1",
    "1 1 1",
)
LINES += (
    "mends e 1",
    "mends e 01",
    "mends e 9",
    "mends e",
    "mends p 1",
    "opens p 3",
    "opens e 3",
    "hides p 1",
    "hides x 1",
)
LINES += (
    "within e w",
    "within w e",
    "better w e",
    "better e w",
    "better e",
    "never worse e w",
    "narrow e 1",
    "narrow e 1 2 0 1",
)
LINES += (
    "narrow e 0 0 1 2",
    "narrow e 1 0 8",
    "narrow e 1 0 1 2 0 1 2 0 1 2",
    "memory w 0",
    "memory w -1",
    "memory  w 0",
)


def filled():
    house = House()
    house.deal((("book", "e", EVEN), ("book", "w", WHOLE), ("pair", "p", P), ("promise", ("mends", "e", 1))))
    for promise in (("hides", "p", 1), ("opens", "p", 3), ("narrow", "e", (0, 1, 2), 1), ("memory", "w", 0)):
        house.change(("promise", promise))
    house.deal((("promise", ("within", "e", "w")), ("promise", ("never worse", "e", "w"))))
    return house


TEXT = """house
book e
book 2 3
1 0 1
0 1 1
pair p
book 2 3
1 0 0
0 1 0
0 0 1
hides
book 2 3
1 1 1
book w
book 2 3
1 0 0
0 1 0
0 0 1
mends e 1
hides p 1
opens p 3
narrow e 1 0 1 2
memory w 0
within e w
better e w"""


def words_named():
    """A house whose names are all words of these texts."""
    house = House()
    for at, name in enumerate(WORDS):
        house.change(("book", name, EVEN) if at % 2 else ("pair", name, P))
    house.change(("promise", ("hides", "hides", 1)))
    house.change(("promise", ("hides", "better", 0)))
    house.change(("promise", ("opens", "narrow", 4)))
    house.change(("promise", ("within", "book", "within")))
    house.change(("promise", ("never worse", "mends", "house")))
    house.change(("promise", ("mends", "mends", 1)))
    house.change(("promise", ("narrow", "house", (2, 1, 0), 3)))
    return house


class Read(Case):
    def assert_read(self, text):
        """The text is read or refused as the lines say, looked at one after the other."""
        found = HouseText(text)
        if found.fault is not None:
            self.assert_error(BadText(found.fault + 1), House.read, text=text)
            return found.fault
        house = House()
        for name, thing in found.things.items():
            one = Book(*thing) if len(thing) == 3 else Pair(*[Book(*part) for part in thing])
            house.change(("book" if len(thing) == 3 else "pair", name, one))
        for at, promise in zip(found.at_promises, found.promises):
            if house.judged(promise) != ("kept",):
                self.assert_error(BadText(at + 1), House.read, text=text)
                return at
        house.deal(tuple(("promise", promise) for promise in found.promises))
        self.assert_call(house, House.read, text=text)
        self.assert_same(House.read(text).deals(), ())
        self.assert_same(str(House.read(text)), text)
        return None

    def test_changed_lines(self):
        seen = {}
        for text in writing.line_changes(TEXT, LINES):
            fault = self.assert_read(text)
            seen[fault] = seen.get(fault, 0) + 1
        self.assertEqual(set(seen), {None, *range(25), 25})
        self.assertGreater(seen[None], 25)

    def test_changed_lines_with_names_that_are_words(self):
        seen = set()
        for text in writing.line_changes(
            str(words_named()), ("hides", "hides hides 2", "book hides", "pair within", "house")
        ):
            seen.add(self.assert_read(text))
        self.assertGreater(len(seen), 60)

    def test_drawn_houses(self):
        for seed in range(40):
            random = Random(400 + seed)
            house = filled()
            for _ in range(12):
                names, things = house.names(), {}
                for name in names:
                    things[name] = housing.listed(house.state[0][name])
                try:
                    house.change(drawn_change(random, housing.Model(things, house.promises())))
                except BookError:
                    pass
            text = str(house)
            self.assert_same(House.read(text), house)
            self.assert_read(text)
            lines = text.split("\n")
            for _ in range(12):
                at = random.randrange(len(lines))
                self.assert_read("\n".join(lines[:at] + lines[at + 1 :]))
                self.assert_read("\n".join(lines[:at] + [random.choice(lines)] + lines[at:]))
                self.assert_read("\n".join(random.sample(lines, len(lines))))

    def test_no_string(self):
        for text in [*others(lambda thing: type(thing) is str), filled(), (TEXT,), [TEXT], EVEN]:
            self.assert_error(BadText(0), House.read, text=text)

    def test_any_string(self):
        for text in [thing for thing in any_values() if type(thing) is str]:
            self.assert_read(text)
        for text in (
            "house\n" * 300,
            "house\n" + "mends e 1\n" * 100,
            "\n" * 1999,
            "house " * 300,
            "house\nbook e\n" * 99,
        ):
            self.assert_read(text)

    def test_where_names_and_things_end(self):
        for text, line in (
            ("", 1),
            ("House", 1),
            ("house ", 1),
            ("\nhouse", 1),
            ("house\n", 2),
            ("house\nbook e", 3),
            ("house\nbook e\nbook f", 3),
            ("house\nbook e\nmends e 1", 3),
            ("house\nbook E\nbook 2 3", 2),
            ("house\nbook ninenines\nbook 2 3", 2),
            ("house\nbook \nbook 2 3", 2),
            ("house\nbook e \nbook 2 3", 2),
            ("house\nbook e f\nbook 2 3", 2),
            ("house\nbook e\nbook 2 3\n", 4),
            ("house\nbook e\nbook 2 3\nhides", 4),
            ("house\nbook e\nbook 2 3\nhides\nbook 2 3", 4),
            ("house\nbook f\nbook 2 3\nbook e\nbook 2 3", 4),
            ("house\nbook e\nbook 2 3\nbook e\nbook 2 3", 4),
            ("house\nbook e\nbook 2 3\npair e\nbook 2 3\n1 1 1\nhides\nbook 2 3", 4),
            ("house\npair e", 3),
            ("house\npair e\nbook 2 3", 4),
            ("house\npair e\nbook 2 3\n1 1 1", 5),
            ("house\npair e\nbook 2 3\n1 1 1\nhides", 6),
            ("house\npair e\nbook 2 3\n1 1 1\nhides\nbook f", 6),
            ("house\npair e\nbook 2 3\n1 1 1\nhides\nhides e 0", 6),
            ("house\npair e\nbook 2 3\n1 1 1\nhides\nbook 2 3\n1 1 1", 8),
            ("house\npair e\nbook 2 3\n1 1 1\nhides\nbook 2 3\n1 1 1\nbook f\nbook 2 3", 8),
            ("house\npair e\nbook 2 3\n1 1 1\nhides\nbook 2 3\n1 0 1\nhides e 0", 8),
            ("house\npair e\nbook 2 3\n1 1 1\nhides\nbook 2 4\nhides e 0", 7),
            ("house\npair e\nbook 2 3\n1 1 1\nhides\nbook 2 3\nhides", 7),
            ("house\nhides", 2),
            ("house\n1 0 1", 2),
            ("house\nmends e 1", 2),
            ("house\nbook e\nbook 2 3\nmends e 0\nbook f\nbook 2 3", 5),
            ("house\nbook e\nbook 2 3\nmends e 0\n1 0 1", 5),
            ("house\nbook e\nbook 2 3\nmends e 0\nmends e 0", 5),
            ("house\nbook e\nbook 2 3\nmends e 0\nmends e 1\nmends e 0", 6),
            ("house\nbook e\nbook 2 3\nmends e 0\nmends e 00", 5),
            ("house\nbook e\nbook 2 3\nopens e 1", 4),
            ("house\nbook e\nbook 2 3\nmends f 1", 4),
            ("house\nbook e\nbook 2 3\nwithin e f", 4),
            ("house\nbook e\nbook 2 3\nbetter e e e", 4),
            ("house\nbook e\nbook 2 3\nnarrow e", 4),
            ("house\nbook e\nbook 2 3\nnarrow e ", 4),
            ("house\nbook e\nbook 2 3\nnarrow e 1 ", 4),
            ("house\nbook e\nbook 2 3\nnarrow e 1 0 1 2 3 4 5 6 7 0", 4),
            ("house\nbook e\nbook 2 3\nmemory e 1 ", 4),
        ):
            self.assertEqual(self.assert_read(text), line - 1, text)

    def test_the_first_promise_that_is_not_kept(self):
        things = "house\nbook e\nbook 2 3\n1 0 1\n0 1 1\nbook f\nbook 2 3\n"
        for promises, line in (
            ("mends e 2", 8),
            ("mends e 1\nmends e 2\nmends e 3", 9),
            ("mends e 2\nmends e 3", 8),
            ("narrow e 1", 8),
            ("narrow e 8 0 0 1", 8),
            ("narrow e 8 7 7 7 7 7 7 7 7", 8),
            ("memory e 1\nmemory e 0", 9),
            ("within f e\nwithin e f", 9),
            ("better f e\nbetter e f", 9),
            # All lines are looked at ahead of what is kept.
            ("mends e 2\nmends e 9", 9),
            ("mends e 2\n", 9),
            ("mends e 2\nmends e 2", 9),
        ):
            self.assertEqual(self.assert_read(things + promises), line - 1, promises)


class Written(Case):
    def test_texts(self):
        self.assert_same(str(filled()), TEXT)
        self.assert_same(House.read(TEXT), filled())
        self.assert_same(str(House()), "house")
        self.assert_call(House(), House.read, text="house")

    def test_all_promises(self):
        house = House()
        house.deal((("book", "a", Book(3, 1, ())), ("book", "b", Book(3, 8, ((1, 2) * 4,))), ("pair", "p", P)))
        for promise, line in (
            (("mends", "a", 8), "mends a 8"),
            (("hides", "p", 0), "hides p 0"),
            (("opens", "p", 8), "opens p 8"),
            (("narrow", "b", (7, 6, 5, 4, 3, 2, 1, 0), 1), "narrow b 1 7 6 5 4 3 2 1 0"),
            (("memory", "a", 0), "memory a 0"),
            (("within", "a", "a"), "within a a"),
            (("never worse", "a", "b"), "better a b"),
        ):
            house.change(("promise", promise))
            self.assertEqual(str(house).split("\n")[-1], line)
            self.assert_same(House.read(str(house)), house)

    def test_names_that_are_words(self):
        house = words_named()
        self.assert_same(House.read(str(house)), house)
        self.assertIn("\npair hides\nbook 2 3\n1 0 0\n0 1 0\n0 0 1\nhides\nbook 2 3\n1 1 1\nbook house\n", str(house))

    def test_a_house_that_was_read_has_no_deals(self):
        house = House.read(TEXT)
        self.assert_same(house.deals(), ())
        for call in (house.undo, house.redo):
            with self.assertRaises(BookError):
                call()
        house.change(("book", "new", EVEN))
        house.undo()
        self.assert_same(str(house), TEXT)


if __name__ == "__main__":
    unittest.main()
