"""mirrorbook/pairs.py: what sets of places tell, ladders and chances of pairs: [7.2], [7.4] to [7.6]."""

import unittest
from fractions import Fraction
from itertools import combinations

from mirrorbook.books import Book
from mirrorbook.chances import swapped
from mirrorbook.errors import BadNumber, BadSet
from mirrorbook.pairs import (
    Pair,
    deaf_sets,
    does_open,
    is_deaf,
    mirrored,
    openers,
    reaches,
    reaching,
    sures,
    told_amount,
    told_by,
    told_chance,
)
from mirrorbook.polynomials import is_polynomial
from mirrorbook.tables import table_of
from tests import brute, chancing, counting, rankings, sealing
from tests.chancing import CHANCES, value_of
from tests.samples import GREAT, Case, is_int, is_places, others, unit_rows

SMALL = sealing.small_pairs(74)
EIGHTS = sealing.eight_pairs()
P = Pair(Book(3, 3, ((1, 0, 2), (0, 1, 2))), Book(3, 3, ((1, 1, 1),)))


def wide_pairs():
    """Pairs of eight places with the greatest and with the least length."""
    whole = Book(5, 8, unit_rows(8))
    return [
        Pair(whole, Book(5, 8, ())),
        Pair(whole, Book(5, 8, unit_rows(8)[1:])),
        Pair(Book(2, 8, ((1,) * 8,)), Book(2, 8, ())),
    ]


class ByRanks:
    """What each set of a pair tells, by the tables of its books."""

    def __init__(self, pair):
        self.n, self.h = pair.n, pair.length
        big, small = rankings.as_dict(table_of(pair.big)), rankings.as_dict(table_of(pair.small))
        self.told = {places: big[places] - small[places] for places in big}
        self.sets = brute.sets(self.n)


RANKED = [(one.pair(), ByRanks(one.pair())) for one in SMALL + EIGHTS] + [
    (pair, ByRanks(pair)) for pair in wide_pairs()
]


def no_numbers(low, high):
    return [low - 1, high + 1, GREAT, *others(lambda thing: is_int(thing) and low <= thing <= high)]


class Told(Case):
    def test_by_listed_words(self):
        for one in SMALL:
            pair = one.pair()
            for places in brute.sets(one.n):
                told = one.told(places)
                self.assert_call(told, told_by, pair=pair, places=places)
                self.assert_call(told == one.h, does_open, pair=pair, places=places)
                self.assert_call(told == 0, is_deaf, pair=pair, places=places)
                # Each hearing comes from as many sealed words with each of its messages.
                for messages in one.heard_messages(places).values():
                    counts = {messages.count(message) for message in messages}
                    self.assertEqual((len(counts), len(set(messages))), (1, one.q ** (one.h - told)))
            self.assertTrue(is_deaf(pair, ()) and does_open(pair, tuple(range(one.n))))

    def test_eight_places_by_listed_words(self):
        for one in EIGHTS:
            for places in brute.sets(8)[::7]:
                self.assertEqual(told_by(one.pair(), places), one.told(places))

    def test_by_tables(self):
        for pair, ranked in RANKED:
            for places in ranked.sets:
                told = ranked.told[places]
                found = (told_by(pair, places), does_open(pair, places), is_deaf(pair, places))
                self.assert_same(found, (told, told == pair.length, told == 0))

    def test_errors(self):
        for pair in (P, EIGHTS[0].pair()):
            wrong = [(pair.n,), (0, 0), (1, 0), (-1,), [0]]
            wrong += others(lambda thing: is_places(pair.n, thing))
            for call in (told_by, does_open, is_deaf):
                self.assert_errors(call, {"pair": pair, "places": ()}, [("places", BadSet, wrong)])


class Sets(Case):
    def test_openers_and_deaf_sets(self):
        for pair, ranked in RANKED:
            opening = [one for one in ranked.sets if ranked.told[one] == pair.length]
            deaf = [one for one in ranked.sets if ranked.told[one] == 0]
            least = tuple(one for one in opening if not any(set(other) < set(one) for other in opening))
            greatest = tuple(one for one in deaf if not any(set(one) < set(other) for other in deaf))
            self.assert_call(least, openers, pair=pair)
            self.assert_call(greatest, deaf_sets, pair=pair)

    def test_openers_are_the_rests_of_the_deaf_sets_of_the_mirrored_pair(self):
        for pair, ranked in RANKED:
            rests = [brute.rest(pair.n, places) for places in deaf_sets(mirrored(pair))]
            self.assertEqual(sorted(rests), sorted(openers(pair)))

    def test_ladders(self):
        for pair, ranked in RANKED:
            h, n = pair.length, pair.n
            reach = [min(len(one) for one in ranked.sets if ranked.told[one] >= j) for j in range(1, h + 1)]
            sure = []
            for j in range(1, h + 1):
                fit = [t for t in range(n + 1) if all(ranked.told[one] >= j for one in combinations(range(n), t))]
                sure.append(min(fit))
            self.assert_call(tuple(reach), reaches, pair=pair)
            self.assert_call(tuple(sure), sures, pair=pair)
            for j in range(1, h + 1):
                fit = [one for one in ranked.sets if len(one) == reach[j - 1] and ranked.told[one] >= j]
                self.assert_call(tuple(fit), reaching, pair=pair, j=j)

    def test_what_ladders_are_like(self):
        for pair, ranked in RANKED:
            h, n, other = pair.length, pair.n, mirrored(pair)
            reach, sure = reaches(pair), sures(pair)
            self.assertEqual((list(reach), list(sure)), (sorted(set(reach)), sorted(set(sure))))
            self.assertTrue(all(low <= high for low, high in zip(reach, sure)))
            self.assertEqual([a + b for a, b in zip(reach, sures(other)[::-1])], [n + 1] * h)
            self.assertEqual([a + b for a, b in zip(sure, reaches(other)[::-1])], [n + 1] * h)
            self.assertTrue(all(is_deaf(pair, one) for one in combinations(range(n), reach[0] - 1)))
            self.assertTrue(all(does_open(pair, one) for one in combinations(range(n), sure[-1])))

    def test_errors(self):
        for pair in (P, EIGHTS[0].pair(), wide_pairs()[0]):
            checks = [("j", BadNumber, no_numbers(1, pair.length))]
            self.assert_errors(reaching, {"pair": pair, "j": 1}, checks)
            checks = [("j", BadNumber, no_numbers(0, pair.length))]
            self.assert_errors(told_chance, {"pair": pair, "j": 0}, checks)


class Chances(Case):
    def test_sums_over_all_sets(self):
        for pair, ranked in RANKED:
            places = tuple(range(pair.n))
            chances = CHANCES[: pair.n + 1]
            for j in range(pair.length + 1):
                found = told_chance(pair, j)
                self.assertTrue(is_polynomial(found) and len(found) <= pair.n + 1)
                for chance in chances if pair.n < 8 or j % 3 == 0 else chances[:4]:
                    wanted = chancing.average(places, lambda left: ranked.told[left] == j, [chance] * pair.n)
                    self.assertEqual(value_of(found, chance), wanted)
                self.assert_call(found, told_chance, pair=pair, j=j)
            found = told_amount(pair)
            self.assertTrue(is_polynomial(found) and len(found) <= pair.n + 1)
            for chance in chances:
                wanted = chancing.average(places, lambda left: ranked.told[left], [chance] * pair.n)
                self.assertEqual(value_of(found, chance), wanted)
            self.assert_call(found, told_amount, pair=pair)

    def test_all_chances_together(self):
        for pair, _ in RANKED:
            chances = [told_chance(pair, j) for j in range(pair.length + 1)]
            self.assertEqual(counting.add(chances), (1,))
            amount = counting.add(counting.scale(j, chance) for j, chance in enumerate(chances))
            self.assertEqual(amount, told_amount(pair))

    def test_the_mirrored_pair(self):
        for pair, _ in RANKED:
            less = counting.scale(-1, swapped(told_amount(pair)))
            self.assertEqual(told_amount(mirrored(pair)), counting.add([(pair.length,), less]))
            for j in range(pair.length + 1):
                self.assertEqual(told_chance(mirrored(pair), j), swapped(told_chance(pair, pair.length - j)))


class WorkedOut(Case):
    """The examples of the document."""

    def test_three_letters(self):
        self.assert_same((P.length, P.message_rows), (1, ((0, 1, 2),)))
        self.assert_call(0, told_by, pair=P, places=(1,))
        self.assert_call(1, told_by, pair=P, places=(0, 1))
        self.assert_call((2,), reaches, pair=P)
        self.assert_call((2,), sures, pair=P)
        self.assert_call(((0, 1), (0, 2), (1, 2)), openers, pair=P)
        self.assert_call(((0,), (1,), (2,)), deaf_sets, pair=P)
        self.assert_call(P, mirrored, pair=P)
        self.assert_call((1, 0, -3, 2), told_amount, pair=P)
        self.assertEqual(value_of(told_chance(P, 1), Fraction(1, 2)), Fraction(1, 2))


if __name__ == "__main__":
    unittest.main()
