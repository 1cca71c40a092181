"""[0.4] The guarantee: each of its sentences, for drawn books, tables, readers, pairs and houses."""

import unittest
from collections import Counter
from fractions import Fraction
from random import Random

from mirrorbook.bookforms import mirror
from mirrorbook.books import Book, words
from mirrorbook.chances import return_poly
from mirrorbook.compared import judge_never_worse
from mirrorbook.counts import weights, weights_at
from mirrorbook.cuts import cuts
from mirrorbook.errors import BookError
from mirrorbook.house import House
from mirrorbook.ladders import ladder
from mirrorbook.pairs import Pair, mirrored, told_by
from mirrorbook.questions import judged, paper_holds
from mirrorbook.readers import (
    accepted,
    judge_least,
    judge_reader,
    reader_of,
    reduced_reader,
    weights_along,
)
from mirrorbook.sealed import heard
from mirrorbook.tableforms import mirror_table
from mirrorbook.tables import is_table, table_of
from mirrorbook.turning import turned_weights
from tests import asking, brute, counting, housing, rankings, sealing, walking
from tests.chancing import value_of
from tests.samples import Case, changes, random_rows
from tests.test_changes import drawn_change


def drawn_books(seed, many, most_places=8, most_words=700):
    random = Random(seed)
    found = []
    while len(found) < many:
        q, n = random.choice((2, 3, 4, 5)), random.randrange(1, most_places + 1)
        book = Book(q, n, random_rows(random, q, n, random.randrange(0, n + 1)))
        if q**book.dimension <= most_words:
            found.append(book)
    return found


BOOKS = drawn_books(1, 120)
TABLES = rankings.small_tables() + rankings.great_tables() + counting.middle_tables() + counting.eight_tables()


def drawn_reader(random, q, n):
    """A reader of a few rooms in each layer, with doors that are drawn."""
    rooms = [1, *[random.randrange(1, 4) for _ in range(n - 1)], 1]
    doors = []
    for ahead, behind in zip(rooms, rooms[1:]):
        some = [(room, letter) for room in range(ahead) for letter in range(q) if random.random() < 0.7]
        doors.append(tuple((room, letter, random.randrange(behind)) for room, letter in some))
    return (q, tuple(rooms), tuple(doors))


class Tables(Case):
    def test_the_table_of_the_mirror_and_the_mirror_of_the_mirror(self):
        for book in BOOKS:
            table = table_of(book)
            self.assertTrue(is_table(table))
            self.assert_same(table_of(mirror(book)), mirror_table(table))
            self.assert_same(mirror(mirror(book)), book)
            self.assert_same(mirror_table(mirror_table(table)), table)

    def test_the_steps_of_two_ladders(self):
        for table in TABLES + [table_of(book) for book in BOOKS]:
            n = rankings.PLACES[len(table)]
            turned = [n + 1 - step for step in ladder(mirror_table(table))]
            self.assertEqual(sorted([*ladder(table), *turned]), list(range(1, n + 1)))


class Counts(Case):
    def test_by_table_one_by_one_and_along_readers(self):
        random, read = Random(2), 0
        for book in BOOKS:
            sizes = Counter(len(brute.support(word)) for word in words(book))
            listed = tuple(sizes[weight] for weight in range(book.n + 1))
            self.assert_same(weights_at(table_of(book), book.q), listed)
            order = tuple(random.sample(range(book.n), book.n))
            if book.q ** max(cuts(table_of(book), order)) > 64:
                continue
            read += 1
            reader = reader_of(book, order)
            self.assertEqual(judge_reader(book, order, reader)[0], "same")
            self.assert_same(weights_along(reader), listed)
            split = split_reader(random, reader)
            self.assertEqual(judge_reader(book, order, split)[0], "same")
            self.assert_same(weights_along(split), listed)
        self.assertGreater(read, 100)

    def test_counts_of_the_mirror(self):
        for book in BOOKS:
            table = table_of(book)
            self.assert_same(turned_weights(weights(table)), weights(table_of(mirror(book))))
            self.assert_same(turned_weights(turned_weights(weights(table))), weights(table))
        for table in TABLES:
            self.assert_same(turned_weights(weights(table)), weights(mirror_table(table)))


def split_reader(random, reader):
    """A reader of the same tuples in which a room of some layer stands twice."""
    q, rooms, doors = reader
    fit = [layer for layer in range(1, len(doors)) if rooms[layer] < 60]
    if not fit:
        return reader
    layer = random.choice(fit)
    room, new = random.randrange(rooms[layer]), rooms[layer]
    rooms = rooms[:layer] + (new + 1,) + rooms[layer + 1 :]
    ahead = [(a, x, new if b == room and random.random() < 0.5 else b) for a, x, b in doors[layer - 1]]
    behind = list(doors[layer]) + [(new, x, b) for a, x, b in doors[layer] if a == room]
    layers = doors[: layer - 1] + (tuple(sorted(ahead)), tuple(sorted(behind))) + doors[layer + 1 :]
    return (q, rooms, layers)


class Readers(Case):
    def test_a_reader_accepts_just_the_words_or_a_word_is_returned(self):
        met = {"same": 0, "differs": 0}
        random = Random(3)
        for book in drawn_books(4, 80, most_places=4, most_words=130):
            order = tuple(random.sample(range(book.n), book.n))
            right = reader_of(book, order)
            for reader in (
                right,
                split_reader(random, right),
                drawn_reader(random, book.q, book.n),
                taken_from(random, right),
            ):
                self.assertTrue(walking.fits(reader))
                told = {placed(letters, order) for letters in accepted(reader)}
                kind, proof = judge_reader(book, order, reader)
                met[kind] += 1
                self.assertIs(kind == "same", told == set(words(book)))
                if kind == "differs":
                    self.assertIsNot(proof in told, proof in set(words(book)))
        self.assertGreater(min(met.values()), 50)

    def test_a_reader_is_least_or_rooms_are_returned(self):
        met = {"least": 0, "spare": 0}
        random = Random(5)
        for _ in range(150):
            reader = drawn_reader(random, random.choice((2, 3)), random.randrange(1, 5))
            paper = judge_least(reader)
            met[paper[0]] += 1
            walked = walking.Walked(reader)
            if paper[0] == "spare":
                _, layer, rooms = paper
                live = [room for room in rooms if is_live(walked, layer, room)]
                if len(rooms) == 1:
                    self.assertEqual(live, [])
                else:
                    self.assertEqual(live, list(rooms))
                    self.assertEqual(walked.tails_of(layer, rooms[0]), walked.tails_of(layer, rooms[1]))
            else:
                self.assertEqual([len(row) for row in paper[1]], list(reader[1]))
                self.assertEqual(reduced_reader(reader)[1], reader[1])
        self.assertGreater(min(met.values()), 5, met)


def is_live(walked, layer, room):
    return bool(walked.heads[layer].get(room)) and bool(walked.tails_of(layer, room))


def placed(letters, order):
    found = [None] * len(order)
    for letter, place in zip(letters, order):
        found[place] = letter
    return tuple(found)


def taken_from(random, reader):
    """A reader with one of the doors left out."""
    q, rooms, doors = reader
    layer = random.randrange(len(doors))
    at = random.randrange(len(doors[layer]))
    return (q, rooms, doors[:layer] + (doors[layer][:at] + doors[layer][at + 1 :],) + doors[layer + 1 :])


class Chances(Case):
    def test_never_worse_or_a_chance_at_which_it_is(self):
        random = Random(6)
        met = {"never worse": 0, "worse": 0}
        polynomials = [return_poly(table_of(book)) for book in BOOKS] + [return_poly(table) for table in TABLES]
        for one in polynomials:
            for other in random.sample(polynomials, 4):
                paper = judge_never_worse(one, other)
                met[paper[0]] += 1
                if paper[0] == "worse":
                    number = Fraction(*paper[1])
                    self.assertTrue(0 <= number <= 1 and value_of(one, number) < value_of(other, number))
                else:
                    for at in range(33):
                        self.assertGreaterEqual(value_of(one, Fraction(at, 32)), value_of(other, Fraction(at, 32)))
        self.assertGreater(min(met.values()), 100)


class Pairs(Case):
    def test_what_a_set_and_its_rest_tell(self):
        for one in sealing.small_pairs(7, each=4) + sealing.eight_pairs():
            pair, other = one.pair(), mirrored(one.pair())
            for places in brute.sets(one.n):
                told = told_by(pair, places)
                self.assertEqual(told + told_by(other, brute.rest(one.n, places)), pair.length)
                hearing = tuple(one.words[-1][place] for place in places)
                self.assertEqual(len(heard(pair, places, hearing)[1]), pair.length - told)


class Houses(Case):
    EVEN = Book(2, 3, ((1, 1, 0), (0, 1, 1)))
    WHOLE = Book(2, 3, ((1, 0, 0), (0, 1, 0), (0, 0, 1)))

    def started(self):
        house = House()
        pair = Pair(self.WHOLE, Book(2, 3, ((1, 1, 1),)))
        house.deal((("book", "e", self.EVEN), ("book", "w", self.WHOLE), ("pair", "p", pair), ("book", "a", self.EVEN)))
        for promise in (("mends", "e", 1), ("hides", "p", 1), ("opens", "p", 3), ("never worse", "e", "w")):
            house.change(("promise", promise))
        return house

    def test_no_change_that_is_made_breaks_a_promise(self):
        made = {True: 0, False: 0}
        for seed in range(40):
            random = Random(700 + seed)
            house = self.started()
            for _ in range(30):
                before = house.copy()
                try:
                    house.deal(tuple(drawn_change(random, model_of(house)) for _ in range(random.randrange(1, 3))))
                except BookError:
                    made[False] += 1
                    self.assertTrue(house == before and house.deals() == before.deals())
                    continue
                made[True] += 1
                self.assertTrue(all(house.judged(promise) == ("kept",) for promise in house.promises()))
                self.assertEqual(House.read(str(house)), house)
                if max([0, *[place_count(house, name) for name in house.names()]]) > 4:
                    house.undo()
        self.assertGreater(min(made.values()), 100)


def place_count(house, name):
    try:
        return house.book(name).n
    except BookError:
        return house.pair(name).n


def model_of(house):
    found = {}
    for name in house.names():
        try:
            found[name] = housing.listed(house.book(name))
        except BookError:
            found[name] = housing.listed(house.pair(name))
    return housing.Model(found, house.promises())


class Papers(Case):
    def test_papers_are_accepted_whoever_made_them(self):
        """A paper of the other kind than the one that is judged is never right, and an equal one is."""
        random = Random(8)
        questions = asking.questions()
        for question in random.sample(questions, 120):
            paper = judged(question)
            again = tuple(part for part in paper)
            self.assertTrue(paper_holds(question, again))
            for thing in list(changes(paper))[:: 1 + len(paper)]:
                if paper_holds(question, thing):
                    self.assertIs(thing[0] == paper[0], True)


if __name__ == "__main__":
    unittest.main()
