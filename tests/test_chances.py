"""mirrorbook/chances.py: [6.1] Lost places, [6.2] to [6.4], [6.9] Half."""

import unittest
from fractions import Fraction
from random import Random

from mirrorbook.chances import (
    area,
    doubt_chance,
    doubt_poly,
    free_poly,
    half_point,
    known_amount,
    known_poly,
    return_chance,
    return_poly,
    swapped,
    turning_poly,
)
from mirrorbook.counts import rank_counts, weights
from mirrorbook.errors import BadChance, BadNumber, BadPlace, BadPolynomial, BadTable
from mirrorbook.polynomials import is_polynomial
from mirrorbook.tableforms import mirror_table
from mirrorbook.turning import ranks_of_weights
from tests import chancing, counting, rankings
from tests.chancing import CHANCES, as_number, value_of
from tests.samples import GREAT, Case, is_int, others

R = (0, 1, 1, 2, 1, 2, 2, 2)
M = (0, 1, 1, 1, 1, 1, 1, 1)
BOOKS = rankings.book_tables()
SMALL = rankings.small_tables()
EIGHTS = counting.eight_tables()
TABLES = SMALL + counting.middle_tables() + rankings.great_tables() + EIGHTS
NO_TABLES = rankings.no_tables()
WIDE = ((2, 6, ((1, 1, 0, 0, 1, 0), (0, 1, 1, 1, 0, 0))), (3, 7, ((1, 2, 0, 1, 1, 0, 0), (0, 0, 1, 1, 2, 0, 1))))
OF_A_TABLE = (return_poly, known_poly, free_poly)
OF_A_PLACE = (doubt_poly, turning_poly)


def places_of(table):
    return rankings.PLACES[len(table)]


def no_places(n):
    return [n, -1, GREAT, *others(lambda thing: is_int(thing) and 0 <= thing < n)]


def no_numbers(low, high):
    return [low - 1, high + 1, *others(lambda thing: is_int(thing) and low <= thing <= high)]


def no_chances(n):
    """Values that are no told chances of n places, some of them nearly so."""
    right = ((1, 2),) * n
    wrong = [
        (1, 0),
        (0, 0),
        (-1, 2),
        (3, 2),
        (1, -2),
        (-1, -2),
        (1, True),
        (True, 2),
        (False, 1),
        [1, 2],
        (1,),
        (1, 2, 3),
    ]
    wrong += [1, None, (1, None), ((1,), 2), "1/2", (0, GREAT, 1)]
    near = [right[:at] + (thing,) + right[at + 1 :] for at in (0, n - 1) for thing in wrong]
    return [right[1:], right + right[:1], list(right), *near, *others(lambda thing: fits_chances(n, thing))]


def fits_chances(n, thing):
    return type(thing) is tuple and len(thing) == n and all(map(is_chance, thing))


def is_chance(thing):
    if type(thing) is not tuple or len(thing) != 2 or not all(map(is_int, thing)):
        return False
    return 0 <= thing[0] <= thing[1] and thing[1] >= 1


def told_chances(n):
    """Told chances of n places: 0 and 1 are among them, and numbers that are not in lowest terms."""
    random = Random(n)
    found = [((0, 1),) * n, ((1, 1),) * n, ((2, 4),) * n, tuple((at % 2 * 7, 7) for at in range(n))]
    for _ in range(4):
        bottoms = [random.choice((1, 2, 6, 10, 360, 9999)) for _ in range(n)]
        found.append(tuple((random.randint(0, bottom), bottom) for bottom in bottoms))
    return found


class Sums(Case):
    """All polynomials and numbers, held against sums over all sets of places."""

    def assert_polynomials(self, one, table, chances):
        for chance in chances:
            same = [chance] * one.n
            for call, wanted in zip(OF_A_TABLE, (chancing.returned, chancing.known, chancing.free)):
                self.assertEqual(value_of(call(table), chance), wanted(one, same), (call, table))
            for place in range(one.n):
                for call, wanted in zip(OF_A_PLACE, (chancing.doubt, chancing.turning)):
                    self.assertEqual(value_of(call(table, place), chance), wanted(one, place, same), (call, table))

    def test_polynomials_of_all_tables(self):
        for table in TABLES:
            # Values at more chances than a polynomial has coefficients tell it.
            many = 12 if places_of(table) < 7 else 9
            self.assert_polynomials(chancing.ByRanks(table), table, CHANCES[:many])

    def test_polynomials_by_words(self):
        for book, table in BOOKS:
            one = chancing.ByWords(book.q, book.n, book.rows)
            self.assert_polynomials(one, table, CHANCES[:7])
            self.assert_polynomials(one, table, CHANCES[7:])
        for q, n, rows in WIDE:
            one = chancing.ByWords(q, n, rows)
            self.assert_polynomials(one, rankings.table_by_words(q, n, one.words), CHANCES[:8])

    def test_they_are_polynomials_of_no_more_coefficients_than_needed(self):
        for table in TABLES:
            n = places_of(table)
            for call in OF_A_TABLE:
                self.assertTrue(is_polynomial(call(table)) and len(call(table)) <= n + 1)
                self.assert_call(call(table), call, table=table)
            for call in OF_A_PLACE:
                for place in range(n):
                    self.assertTrue(is_polynomial(call(table, place)) and len(call(table, place)) <= n)
                    self.assert_call(call(table, place), call, table=table, place=place)

    def test_no_rank_and_every_rank(self):
        for n in range(1, 9):
            none, full = rankings.uniform(n, 0), rankings.uniform(n, n)
            self.assert_same([call(none) for call in OF_A_TABLE], [(1,), (), counting.raised((1, -1), n)])
            all_left = counting.raised((1, -1), n)
            self.assert_same([call(full) for call in OF_A_TABLE], [all_left, (n, -n), (1,)])
            self.assert_same([call(none, n - 1) for call in OF_A_PLACE], [(), ()])
            self.assert_same([call(full, 0) for call in OF_A_PLACE], [(1,), counting.raised((1, -1), n - 1)])
        self.assertEqual({places_of(table) for table in TABLES}, set(range(1, 9)))

    def test_told_chances(self):
        for table in SMALL + rankings.great_tables()[:2] + EIGHTS[:2]:
            one = chancing.ByRanks(table)
            for chances in told_chances(one.n)[-5:]:
                self.assert_told(one, table, chances)

    def test_told_chances_by_words(self):
        for book, table in BOOKS:
            one = chancing.ByWords(book.q, book.n, book.rows)
            for chances in told_chances(book.n):
                self.assert_told(one, table, chances)

    def assert_told(self, one, table, chances):
        fractions = [Fraction(*chance) for chance in chances]
        self.assert_call(as_number(chancing.returned(one, fractions)), return_chance, table=table, chances=chances)
        self.assert_call(as_number(chancing.known(one, fractions)), known_amount, table=table, chances=chances)
        for place in range(one.n):
            wanted = as_number(chancing.doubt(one, place, fractions))
            self.assert_call(wanted, doubt_chance, table=table, place=place, chances=chances)

    def test_the_chance_of_a_place_plays_no_part_in_its_doubt(self):
        for table in SMALL + EIGHTS:
            n = places_of(table)
            for place in range(n):
                for chances in told_chances(n)[-2:]:
                    drawn = [chances[:place] + (own,) + chances[place + 1 :] for own in ((0, 1), (1, 1), (3, 9))]
                    found = {doubt_chance(table, place, some) for some in drawn}
                    self.assertEqual(len(found), 1)

    def test_the_return_is_a_straight_line_in_each_told_chance(self):
        for table in SMALL + EIGHTS[:1]:
            n = places_of(table)
            for at in range(n):
                chances = told_chances(n)[-1]
                ends = [
                    return_chance(table, chances[:at] + (own,) + chances[at + 1 :]) for own in ((0, 3), (1, 3), (1, 1))
                ]
                first, third, last = [Fraction(*number) for number in ends]
                self.assertEqual(third, first + (last - first) / 3)
                self.assertLessEqual(last, first)

    def test_told_chances_that_are_all_the_same(self):
        for table in TABLES:
            n = places_of(table)
            for chance in CHANCES[:5]:
                told = (as_number(chance),) * n
                self.assertEqual(return_chance(table, told), as_number(value_of(return_poly(table), chance)))
                self.assertEqual(known_amount(table, told), as_number(value_of(known_poly(table), chance)))
                for place in range(n):
                    wanted = as_number(value_of(doubt_poly(table, place), chance))
                    self.assertEqual(doubt_chance(table, place, told), wanted)


def derivative(polynomial):
    return counting.trim(degree * coefficient for degree, coefficient in enumerate(polynomial) if degree)


class Bonds(Case):
    """[6.2] and [6.3]: derivatives, areas, the mirror."""

    def test_derivatives(self):
        for table in TABLES:
            places = range(places_of(table))
            doubts = counting.add(doubt_poly(table, place) for place in places)
            turnings = counting.add(turning_poly(table, place) for place in places)
            self.assertEqual(derivative(known_poly(table)), counting.scale(-1, doubts))
            self.assertEqual(derivative(return_poly(table)), counting.scale(-1, turnings))

    def test_areas(self):
        for table in TABLES:
            places = range(places_of(table))
            doubts = sum(Fraction(*area(doubt_poly(table, place))) for place in places)
            turnings = sum(Fraction(*area(turning_poly(table, place))) for place in places)
            self.assertEqual((doubts, turnings), (table[-1], min(1, table[-1])))

    def test_the_mirror(self):
        for table in TABLES:
            n, mirrored = places_of(table), mirror_table(table)
            for place in range(n):
                less = counting.scale(-1, swapped(doubt_poly(table, place)))
                self.assert_same(doubt_poly(mirrored, place), counting.add([(1,), less]))
            self.assert_same(return_poly(mirrored), free_poly(table))
            self.assert_same(free_poly(mirrored), return_poly(table))
            line = (n - table[-1], -n)
            self.assert_same(known_poly(mirrored), counting.add([line, swapped(known_poly(table))]))

    def test_rank_counts_and_weights_tell_the_return_and_the_known_amount(self):
        for table in TABLES:
            n = places_of(table)
            rows = ranks_of_weights(weights(table))
            self.assertEqual(rows, rank_counts(table))
            parts, amounts = [], []
            for j, row in enumerate(rows):
                chance = counting.multiply(counting.raised((1, -1), j), counting.raised((0, 1), n - j))
                parts.append(counting.scale(row[-1], chance))
                amounts.append(counting.scale(sum(rank * many for rank, many in enumerate(row)), chance))
            self.assertEqual((return_poly(table), known_poly(table)), (counting.add(parts), counting.add(amounts)))


class AnyPolynomials(Case):
    POLYNOMIALS = ((), (1,), (-4,), (0, 1), (6, -5, 1), (0, 0, 0, 2), (999999, -999999, 999999, 0, 0, 0, 0, 0, -999999))

    def test_area(self):
        for one in self.POLYNOMIALS:
            wanted = sum((Fraction(coefficient, at + 1) for at, coefficient in enumerate(one)), Fraction(0))
            self.assert_call(as_number(wanted), area, polynomial=one)
        self.assert_call((0, 1), area, polynomial=())
        self.assert_call((0, 1), area, polynomial=(1, -2))
        self.assert_call((-1, 2), area, polynomial=(0, -1))
        self.assert_call((1, 1), area, polynomial=(0, 2))

    def test_swapped(self):
        for one in self.POLYNOMIALS:
            self.assertTrue(is_polynomial(swapped(one)))
            for number in (*CHANCES, Fraction(-5, 2), Fraction(17)):
                self.assertEqual(value_of(swapped(one), number), value_of(one, 1 - number))
            self.assert_call(one, swapped, polynomial=swapped(one))
        self.assert_call((), swapped, polynomial=())
        self.assert_call((1, -1), swapped, polynomial=(0, 1))

    def test_no_polynomials(self):
        wrong = [(0,), (1, 0), (True,), [1], (1, None), *others(lambda thing: is_polynomial(thing))]
        for call in (area, swapped):
            self.assert_errors(call, {"polynomial": ()}, [("polynomial", BadPolynomial, wrong)])


class HalfPoints(Case):
    def test_the_return_is_a_half_between_the_integer_and_the_next_one(self):
        for table in TABLES:
            some = range(41) if places_of(table) in (3, 8) else (0, 1, 7, 40)
            for bits in some if table[-1] else ():
                found = half_point(table, bits)
                self.assertTrue(is_int(found) and 0 <= found < max(2**bits, 1))
                self.assertGreaterEqual(value_of(return_poly(table), Fraction(found, 2**bits)), Fraction(1, 2))
                self.assertLess(value_of(return_poly(table), Fraction(found + 1, 2**bits)), Fraction(1, 2))

    def test_half_points_that_have_a_power_of_two_below(self):
        for bits in range(41):
            exact = 2**bits // 2
            for table in (R, (0, 1), (0, 1, 0, 1), rankings.uniform(5, 3), rankings.uniform(7, 4)):
                self.assert_call(exact, half_point, table=table, bits=bits)

    def test_without_a_rank_there_is_none(self):
        for n in (1, 2, 8):
            for bits in (0, 5, 40):
                self.assert_call(None, half_point, table=rankings.uniform(n, 0), bits=bits)

    def test_errors(self):
        checks = [("table", BadTable, NO_TABLES), ("bits", BadNumber, no_numbers(0, 40))]
        for table in (R, rankings.uniform(2, 0)):
            self.assert_errors(half_point, {"table": table, "bits": 3}, checks)


class Errors(Case):
    def test_tables_places_and_chances(self):
        tables = ("table", BadTable, NO_TABLES)
        for table in (R, (0, 1), rankings.bookless()):
            n = places_of(table)
            places = ("place", BadPlace, no_places(n))
            chances = ("chances", BadChance, no_chances(n))
            told = ((1, 3),) * n
            for call in OF_A_TABLE:
                self.assert_errors(call, {"table": table}, [tables])
            for call in OF_A_PLACE:
                self.assert_errors(call, {"table": table, "place": 0}, [tables, places])
            for call in (return_chance, known_amount):
                self.assert_errors(call, {"table": table, "chances": told}, [tables, chances])
            right = {"table": table, "place": n - 1, "chances": told}
            self.assert_errors(doubt_chance, right, [tables, places, chances])

    def test_chances_of_other_tables(self):
        for call in (return_chance, known_amount):
            self.assert_error(BadChance(((1, 2),) * 4), call, table=R, chances=((1, 2),) * 4)
            self.assert_error(BadChance(()), call, table=R, chances=())


class WorkedOut(Case):
    """The examples of the document."""

    def test_any_two_of_three_places(self):
        self.assert_call((1, 0, -3, 2), return_poly, table=R)
        self.assert_call((2, 0, -3, 1), known_poly, table=R)
        self.assert_call((0, 2, -1), doubt_poly, table=R, place=0)
        self.assert_call((2, 3), area, polynomial=(0, 2, -1))
        self.assert_call((1, 0, 0, -1), free_poly, table=R)
        self.assert_call(4, half_point, table=R, bits=3)

    def test_the_mirror_of_it(self):
        self.assert_call((0, 0, 1), doubt_poly, table=M, place=0)
        self.assert_call((1, 0, 0, -1), return_poly, table=M)

    def test_told_chances(self):
        # The places 0 and 1 are left for certain, place 2 is lost for certain.
        self.assert_call((1, 1), return_chance, table=R, chances=((0, 5), (0, 1), (3, 3)))
        # Place 0 is lost for certain, so both others are needed: 2/3 of 1/2.
        self.assert_call((1, 3), return_chance, table=R, chances=((1, 1), (2, 6), (1, 2)))
        self.assert_call((7, 6), known_amount, table=R, chances=((1, 1), (2, 6), (1, 2)))
        self.assert_call((2, 3), doubt_chance, table=R, place=0, chances=((1, 1), (2, 6), (1, 2)))


if __name__ == "__main__":
    unittest.main()
