"""mirrorbook/console.py: commands, their answers, and lines that are none."""

import re
import unittest
from fractions import Fraction
from itertools import permutations
from random import Random

from mirrorbook import errors
from mirrorbook.books import Book
from mirrorbook.console import Console
from mirrorbook.errors import BookError, InvalidCommand, NoName
from mirrorbook.house import House
from mirrorbook.pairs import Pair
from mirrorbook.tables import table_of
from tests import brute, chancing, counting, housing, sealing
from tests.samples import Case, any_values, others, same

EVEN = Book(2, 3, ((1, 1, 0), (0, 1, 1)))
ONES = Book(2, 3, ((1, 1, 1),))
WHOLE = Book(2, 3, ((1, 0, 0), (0, 1, 0), (0, 0, 1)))
NONE = Book(2, 3, ())
FOURS = Book(4, 4, ((1, 0, 2, 3), (0, 1, 1, 1)))
TWOS = Book(2, 4, ((1, 0, 1, 0), (0, 1, 0, 1)))
P = Pair(WHOLE, ONES)
THINGS = {"e": EVEN, "f": FOURS, "none": NONE, "o": ONES, "p": P, "twos": TWOS, "w": WHOLE}

NAME = "([a-z]{1,8})"
DIGIT = "([0-9])"
JOINED = "([0-9](?:,[0-9]){0,7})"
SET = "(-|[0-9](?:,[0-9]){0,7})"
INTEGER = "(0|-?[1-9][0-9]{0,3})"
PROMISE = (
    f"(mends|hides|opens|memory) {NAME} {INTEGER}|(narrow) {NAME} {INTEGER}((?: [0-9])*)|(within|better) {NAME} {NAME}"
)
FORMS = {
    "book": f" {NAME} {DIGIT} {DIGIT}((?: [0-9](?:,[0-9]){{0,7}})*)",
    "drop": f" {NAME}",
    "rename": f" {NAME} {NAME}",
    "row": f" {NAME} {JOINED}",
    "check": f" {NAME} {JOINED}",
    "place": f" {NAME} {SET}",
    "without": f" {NAME} {SET}",
    "fixed": f" {NAME} {SET}",
    "repeat": f" {NAME} {DIGIT}",
    "turn": f" {NAME} {JOINED} {JOINED}",
    "mirror": f" {NAME}",
    "seal": f" {NAME} {NAME} {NAME}",
    "share": f" {NAME} {SET} {NAME}",
    "promise": f" (?:{PROMISE})",
    "release": f" (?:{PROMISE})",
    "undo": "",
    "redo": "",
    "names": "",
    "show": f" {NAME}",
    "ladder": f" {NAME}",
    "weights": f" {NAME} {DIGIT}",
    "best": f" {NAME}",
    "tells": f" {NAME} {SET}",
    "chance": f" {NAME} {INTEGER}/{INTEGER}",
    "better": f" {NAME} {NAME}",
}
ASKS = ("names", "show", "ladder", "weights", "best", "tells", "chance", "better")


def command_of(line):
    """The words of a command with what they say, or None."""
    if type(line) is not str:
        return None
    kind = line.split(" ")[0]
    found = re.fullmatch(kind + FORMS[kind], line) if kind in FORMS else None
    if not found:
        return None
    said = [part for part in found.groups()]
    if kind == "chance":
        top, bottom = int(said[1]), int(said[2])
        return (kind, said[0], (top, bottom)) if 0 <= top <= bottom and bottom else None
    if kind in ("promise", "release"):
        return (kind, promise_of([part for part in said if part is not None]))
    if kind == "book":
        rows = tuple(numbers(row) for row in said[3].split())
        return (kind, said[0], int(said[1]), int(said[2]), rows)
    return (kind, *[part if re.fullmatch("[a-z]+", part) else numbers(part) for part in said])


def promise_of(parts):
    kind, name, *rest = parts
    if kind in ("within", "better"):
        return ("never worse" if kind == "better" else kind, name, rest[0])
    if kind == "narrow":
        return (kind, name, tuple(map(int, rest[1].split())), int(rest[0]))
    return (kind, name, int(rest[0]))


def numbers(text):
    return () if text == "-" else tuple(map(int, text.split(",")))


def house_of(things=None):
    house = House()
    for name, thing in (things or THINGS).items():
        house.change(("book" if isinstance(thing, Book) else "pair", name, thing))
    return house


def done(house, command):
    """Makes the change of a command at a house itself."""
    kind, *said = command
    if kind in ("undo", "redo"):
        return getattr(house, kind)()
    if kind == "book":
        return house.change((kind, said[0], Book(*said[1:])))
    if kind == "repeat":
        return house.change((kind, said[0], said[1][0]))
    return house.change(command)


def outcome(call):
    """What a call returns, or its error."""
    try:
        return call()
    except BookError as error:
        return error


def state(house):
    return (str(house), house.deals())


class Changes(Case):
    """Commands that change the house."""

    LINES = (
        "book x 2 3 1,1,0 0,1,1",
        "book x 5 1",
        "book e 3 2 1,2",
        "book x 4 8 1,2,3,0,1,2,3,0",
        "book p 2 3",
        "book x 0 3",
        "book x 6 3 0,0,0",
        "book x 2 0",
        "book x 2 9 1",
        "book x 2 3 1,1",
        "book x 2 3 1,1,0 0,1,2",
        "book x 2 1" + " 1" * 16,
        "book x 2 1" + " 1" * 17,
        "drop e",
        "drop x",
        "rename e x",
        "rename e w",
        "rename x e",
        "row e 1,0,0",
        "row e 1,0",
        "row p 1,0,0",
        "row e 1,0,2",
        "row f 0,3,2,1",
        "check w 1,1,1",
        "check w 9",
        "place o 1",
        "place o -",
        "place none -",
        "place none 1",
        "place w 1,0,1",
        "without w 0,2",
        "without w -",
        "without w 0,1,2",
        "without w 2,0",
        "fixed e 1",
        "fixed e -",
        "fixed e 3",
        "repeat e 0",
        "repeat e 3",
        "repeat e 9",
        "turn f 3,2,1,0 1,2,3,1",
        "turn f 3,2,1 1,2,3,1",
        "turn f 3,2,1,0 1,2,3,0",
        "mirror e",
        "mirror p",
        "mirror x",
        "seal w e x",
        "seal w e p",
        "seal w e e",
        "seal e w x",
        "seal w f x",
        "seal w w x",
        "seal p e x",
        "seal w x x",
        "share e 0 x",
        "share e 0,1 p",
        "share e - x",
        "share w 1 x",
        "share p 1 x",
        "promise mends e 1",
        "promise mends e 2",
        "promise mends e 9",
        "promise mends e -1",
        "promise mends e 9999",
        "promise hides p 1",
        "promise opens p 3",
        "promise opens e 3",
        "promise narrow e 1 2 1 0",
        "promise narrow e 1",
        "promise narrow e 1 9",
        "promise narrow e 1 0 1 2 0 1 2 0 1 2",
        "promise narrow e 1 0 1 2 0 1 2 0 1",
        "promise narrow e -9999 0 1 2",
        "promise memory e 1",
        "promise memory e 0",
        "promise within e w",
        "promise within w e",
        "promise within e p",
        "promise better e w",
        "promise better w e",
        "release mends e 1",
        "release mends e 0",
        "release narrow e 1",
        "undo",
        "redo",
    )

    def assert_done(self, house, line):
        """The line does what the house does by itself, and returns `done`."""
        command = command_of(line)
        self.assertIsNotNone(command, line)
        other = house.copy()
        before = state(house)
        wanted = outcome(lambda: done(other, command))
        found = outcome(lambda: Console(house).run(line))
        if wanted is None:
            self.assert_same(found, "done")
        else:
            self.assertTrue(same(found, wanted), (line, found, wanted))
            self.assertEqual(state(house), before)
        self.assertEqual(state(house), state(other))
        self.assertTrue(house == other)
        self.assertTrue(same(outcome(house.redo), outcome(other.redo)))

    def test_each_line_at_a_new_house(self):
        kinds = set()
        for line in self.LINES:
            for ahead in ((), ("mends e 1",), ("mends e 0", "narrow e 1 0 1 2"), ("within e w", "opens p 3")):
                house = house_of()
                for promise in ahead:
                    self.assert_same(Console(house).run("promise " + promise), "done")
                self.assert_done(house, line)
            kinds.add(line.split(" ")[0])
        self.assertEqual(kinds, set(FORMS) - set(ASKS))

    def test_all_lines_one_after_the_other(self):
        for seed in range(15):
            random = Random(500 + seed)
            console = Console(house_of())
            for line in random.sample(self.LINES, len(self.LINES)):
                self.assert_done(console.house, line)

    def test_each_command_can_be_done(self):
        house = house_of()
        console = Console(house)
        for line in (
            "book x 2 3 1,1,0 0,1,1",
            "row x 0,1,1",
            "check x 1,1,1",
            "place x 1,1",
            "repeat x 0",
            "without x 4",
            "turn x 3,2,1,0 1,1,1,1",
            "fixed x 3",
            "mirror x",
            "share e 0,1 s",
            "seal w e t",
            "rename t u",
            "drop s",
            "promise narrow e 1 0 1 2",
            "release narrow e 1 0 1 2",
            "undo",
            "redo",
        ):
            self.assert_same(console.run(line=line), "done")
        self.assert_same(house.names(), ("e", "f", "none", "o", "p", "twos", "u", "w", "x"))
        self.assertIs(console.house, house)


class Answers(Case):
    """Commands that ask."""

    def assert_answer(self, house, line, wanted):
        before = state(house)
        self.assertIsNotNone(command_of(line), line)
        if isinstance(wanted, BookError):
            self.assert_error(wanted, Console(house).run, line=line)
        else:
            self.assert_call(wanted, Console(house).run, line=line)
        self.assertEqual(state(house), before)

    def test_names_and_show(self):
        house = house_of()
        self.assert_answer(house, "names", "e f none o p twos w")
        self.assert_answer(House(), "names", "-")
        for name, thing in THINGS.items():
            self.assert_answer(house, "show " + name, str(thing))

    def test_ladders(self):
        for name, thing in THINGS.items():
            if name == "p":
                steps = [self.reach(thing, j) for j in (1, 2)], [self.sure(thing, j) for j in (1, 2)]
            else:
                steps = [self.ladder(book) for book in (thing, Book(thing.q, thing.n, tuple(mirror_rows(thing))))]
            wanted = " | ".join(" ".join(map(str, some)) or "-" for some in steps)
            self.assert_answer(house_of(), "ladder " + name, wanted)
        self.assert_answer(house_of(), "ladder w", "1 2 3 | -")
        self.assert_answer(house_of(), "ladder none", "- | 1 2 3")

    def ladder(self, book):
        one = housing.listed(book)
        within = {}
        for places in brute.sets(book.n):
            words = [word for word in one[2] if set(brute.support(word)) <= set(places)]
            within.setdefault(brute.dimension(book.q, words), []).append(len(places))
        return [
            min(size for hold, sizes in within.items() if hold >= j for size in sizes)
            for j in range(1, book.dimension + 1)
        ]

    def reach(self, pair, j):
        one = housing.listed(pair)
        return min(len(places) for places in brute.sets(pair.n) if housing.told(one, places) >= j)

    def sure(self, pair, j):
        one = housing.listed(pair)
        return max(len(places) for places in brute.sets(pair.n) if housing.told(one, places) < j) + 1

    def test_weights(self):
        for name, thing in THINGS.items():
            for many in range(10) if name != "p" else ():
                words = sorted(housing.words_of(thing))
                if len(words) ** many <= 5000:
                    found = counting.supports_of_stacks(thing.n, words, many)
                    sizes = [sum(count for one, count in found.items() if len(one) == w) for w in range(thing.n + 1)]
                    self.assert_answer(house_of(), f"weights {name} {many}", " ".join(map(str, sizes)))
        great = Console(house_of()).run("weights f 9").split(" ")
        self.assertEqual(sum(map(int, great)), 16**9)

    def test_best_orders(self):
        for name, thing in THINGS.items():
            if name != "p":
                one = housing.listed(thing)
                every = [(max(cuts), sum(cuts), order, cuts) for order, cuts in all_cuts(one)]
                _, _, order, cuts = min(every)
                wanted = ",".join(map(str, order)) + " " + " ".join(map(str, cuts))
                self.assert_answer(house_of(), "best " + name, wanted)

    def test_what_pairs_tell(self):
        house = house_of({**THINGS, "q": Pair(FOURS, Book(4, 4, ()))})
        for name in ("p", "q"):
            pair = house.pair(name)
            for places in brute.sets(pair.n):
                said = ",".join(map(str, places)) or "-"
                wanted = str(housing.told(housing.listed(pair), places))
                self.assert_answer(house, f"tells {name} {said}", wanted)
            for said in ("4", "0,0", "1,0", "0,1,2,3,4,5,6,7", "9"):
                self.assert_answer(house, f"tells {name} {said}", errors.BadSet(numbers(said)))

    def test_chances(self):
        house = house_of()
        for name, thing in THINGS.items():
            for top, bottom in (
                (0, 1),
                (1, 1),
                (1, 2),
                (2, 4),
                (0, 9999),
                (9999, 9999),
                (17, 100),
                (5000, 9999),
                (3, 9),
            ):
                chance = [Fraction(top, bottom)] * thing.n
                one = housing.listed(thing)
                amount = (
                    (lambda left: housing.told(one, left) == 2)
                    if name == "p"
                    else (lambda left: housing.tells_all(one, left))
                )
                wanted = chancing.average(tuple(range(thing.n)), amount, chance)
                self.assert_answer(house, f"chance {name} {top}/{bottom}", str(wanted))

    def test_better(self):
        house = house_of()
        books = [name for name in THINGS if name != "p"]
        met = set()
        for one in books:
            for other in books:
                judged = house.judged(("never worse", one, other))
                wanted = "never worse" if judged == ("kept",) else "worse"
                met.add(wanted)
                self.assert_answer(house, f"better {one} {other}", wanted)
        self.assertEqual(met, {"never worse", "worse"})

    def test_names_that_stand_for_nothing_or_for_the_wrong_kind(self):
        house = house_of()
        for line, name in (
            ("show x", "x"),
            ("ladder x", "x"),
            ("chance x 1/2", "x"),
            ("weights x 1", "x"),
            ("weights p 1", "p"),
            ("best x", "x"),
            ("best p", "p"),
            ("tells x -", "x"),
            ("tells e -", "e"),
            ("tells e 9", "e"),
            ("better x e", "x"),
            ("better e x", "x"),
            ("better x y", "x"),
            ("better p x", "p"),
            ("better e p", "p"),
            ("better p e", "p"),
        ):
            self.assert_answer(house, line, NoName(name))

    def test_eight_places(self):
        eight = sealing.eight_pairs()[0].pair()
        seven = Book(3, 7, ((1, 1, 1, 0, 0, 0, 2), (0, 0, 1, 1, 1, 0, 0)))
        house = house_of({"eight": eight.big, "pair": eight, "seven": seven})
        self.assert_answer(house, "ladder eight", "4 6 7 8 | 4 6 7 8")
        self.assert_answer(house, "weights eight 1", "1 0 0 0 14 0 0 0 1")
        self.assertEqual(Console(house).run("chance pair 1/1"), "0")
        self.assertEqual(Console(house).run("chance eight 0/1"), "1")
        self.assertEqual(Console(house).run("tells pair 0,1,2,3,4,5,6,7"), "3")
        self.assertEqual(Console(house).run("best seven"), best_by_table(seven))


def mirror_rows(book):
    return brute.reduced(book.q, book.n, sorted(brute.checks(book.q, book.n, book.rows)))


def all_cuts(one):
    return [(order, housing.cuts(one, order)) for order in permutations(range(one[1]))]


def best_by_table(book):
    """The best order by the cuts of all sets, without all orders being listed with their words."""
    table = table_of(book)
    full = len(table) - 1
    cut = [table[number] + table[full ^ number] - table[full] for number in range(len(table))]
    loads = []
    for order in permutations(range(book.n)):
        number, found = 0, [0]
        for place in order:
            number |= 1 << place
            found.append(cut[number])
        loads.append((max(found), sum(found), order, found))
    _, _, order, found = min(loads)
    return ",".join(map(str, order)) + " " + " ".join(map(str, found))


GOOD = [line for line in Changes.LINES if "," not in line or len(line) < 26]
GOOD += [
    "names",
    "show e",
    "ladder e",
    "weights e 2",
    "best e",
    "tells p 0,1",
    "tells p -",
    "chance e 1/2",
    "better e w",
]


def line_changes(line):
    """The line with something at one place otherwise."""
    yield from (" " + line, line + " ", line + "\n", "\n" + line, line.upper(), line + " x", line + " 0", line + " -")
    yield from (line + ",", line + "/", line + "," + line, line.replace(" ", "  "), line.replace(" ", "\t"), line[:-1])
    yield from (line.replace(" ", "\n"), line.replace(",", " "), line.replace(",", ", "), line.replace(",", ",,"))
    words = line.split(" ")
    for at in range(len(words)):
        ahead, behind = words[:at], words[at + 1 :]
        yield " ".join(ahead + behind)
        yield " ".join(ahead + [words[at], words[at]] + behind)
        for new in (
            *(
                "",
                "-",
                "x",
                "X",
                "eightlet",
                "ninenines",
                "e1",
                "0",
                "9",
                "10",
                "-1",
                "+1",
                "01",
                "00",
                "-0",
                "1_0",
                " ",
            ),
            *("1,2", "1,2,", ",1", "1,,2", "1, 2", "10,1", "-1,0", "0,1,2,3,4,5,6,7", "0,1,2,3,4,5,6,7,0", "-,0", "--"),
            *(
                "1/2",
                "2/1",
                "0/0",
                "1/0",
                "0/1",
                "01/2",
                "1/02",
                "+1/2",
                "-1/2",
                "1/-2",
                "1/2/3",
                "/2",
                "1/",
                "9999/9999",
            ),
            *(
                "9999/10000",
                "10000/10000",
                "9999",
                "10000",
                "-9999",
                "-10000",
                "mends",
                "better",
                "book",
                "e\n",
                "\u0661",
            ),
        ):
            yield " ".join([*ahead, new, *behind])


class Lines(Case):
    """What is a command and what is none."""

    def test_lines_with_something_otherwise(self):
        house = house_of()
        house.change(("promise", ("mends", "e", 1)))
        refused = kept = 0
        for line in GOOD:
            for new in {*line_changes(line)}:
                before = state(house)
                found = outcome(lambda: Console(house).run(new))
                command = command_of(new)
                if command is None:
                    refused += 1
                    self.assertTrue(same(found, InvalidCommand()), new)
                    self.assertEqual(state(house), before)
                    continue
                kept += 1
                self.assertFalse(same(found, InvalidCommand()), new)
                if state(house) != before:
                    self.assertEqual(found, "done")
                    house = house_of()
                    house.change(("promise", ("mends", "e", 1)))
        self.assertGreater(refused, 9000)
        self.assertGreater(kept, 1000)

    def test_any_values(self):
        house = house_of()
        console = Console(house)
        for line in [*others(lambda thing: type(thing) is str), ("names",), ["names"], b"names", house, None, 1]:
            self.assert_error(InvalidCommand(), console.run, line=line)
        for line in ["", " ", "-", "\n", "names names", "Names", "help", "a" * 2000, "book" * 500, "names\nnames"]:
            self.assert_error(InvalidCommand(), console.run, line=line)
        for line in [thing for thing in any_values() if type(thing) is str]:
            if line != "undo":
                self.assert_error(InvalidCommand(), console.run, line=line)

    def test_refused_lines_come_before_names_and_rows(self):
        for line in (
            "show X",
            "book X 2 3",
            "book x 2 3 1,1, 0",
            "book x 2 3 -",
            "row x -",
            "turn x - 1",
            "turn x 0 -",
        ):
            self.assert_error(InvalidCommand(), Console(House()).run, line=line)

    def test_books_and_their_errors(self):
        console = Console(house_of())
        for line, error in (
            ("book p 6 9 1", errors.BadField(6)),
            ("book p 0 0", errors.BadField(0)),
            ("book p 2 9", errors.BadPlaces(9)),
            ("book p 2 0 1", errors.BadPlaces(0)),
            ("book p 2 1" + " 0" * 17, errors.BadRows(-1)),
            ("book p 2 1 0 1 2", errors.BadRows(2)),
            ("book p 2 1 0 1", errors.NameTaken("p")),
        ):
            self.assert_error(error, console.run, line=line)

    def test_an_error_of_a_promise(self):
        house = house_of()
        console = Console(house)
        console.run("promise mends e 1")
        wanted = errors.Unkept(("mends", "e", 1), ("lost", (0,)))
        self.assert_error(wanted, console.run, line="row e 1,1,1")
        self.assert_error(errors.InUse("e"), console.run, line="drop e")
        self.assert_error(errors.NoPromise(("mends", "e", 0)), console.run, line="release mends e 0")
        self.assert_error(errors.BadPromise(("mends", "e", 1)), console.run, line="promise mends e 1")
        self.assert_error(errors.BadPromise(("narrow", "e", (9,), 1)), console.run, line="promise narrow e 1 9")
        self.assert_error(errors.NothingToRedo(), console.run, line="redo")
        for _ in range(8):
            console.run("undo")
        self.assert_error(errors.NothingToUndo(), console.run, line="undo")


class WorkedOut(Case):
    """The examples of the document."""

    def test_the_house_of_the_document(self):
        house = House()
        house.change(("book", "e", EVEN))
        house.change(("promise", ("mends", "e", 1)))
        console = Console(house)
        self.assert_call("2 3 | 3", console.run, line="ladder e")
        self.assert_call("1 0 9 6", console.run, line="weights e 2")
        self.assert_call("1/2", console.run, line="chance e 1/2")
        self.assert_call("0,1,2 0 1 1 0", console.run, line="best e")


if __name__ == "__main__":
    unittest.main()
