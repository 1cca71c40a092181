"""mirrorbook/compared.py: papers of [6.7], right and wrong ones of any make, and [6.10] Place by place."""

import unittest
from fractions import Fraction
from itertools import product as pairs_of

from mirrorbook.chances import return_chance
from mirrorbook.compared import by_places_holds, judge_by_places, judge_never_worse, never_worse_holds
from mirrorbook.errors import BadPolynomial, BadTable, OtherPlaces
from mirrorbook.polynomials import is_polynomial, minus
from tests import brute, counting, rankings, rooting
from tests.rooting import Rational, Square
from tests.samples import GREAT, Case, any_values, changes, is_int, is_places, others

SIXTEENTHS = tuple((at, 16) for at in range(17))
NO_TABLES = rankings.no_tables()
NO_POLYNOMIALS = [(0,), (1, 0), [1], (True,), (1, True), *others(is_polynomial)]


def fits_number(thing):
    return type(thing) is tuple and len(thing) == 2 and all(map(is_int, thing)) and thing[1] > 0


def fits_polynomial(thing):
    return type(thing) is tuple and all(map(is_int, thing)) and (thing == () or thing[-1] != 0)


def is_paper(one, other, thing):
    """Whether any value is a right paper of [6.7], by exact numbers."""
    if type(thing) is not tuple or not thing or type(thing[0]) is not str:
        return False
    if thing[0] == "worse" and len(thing) == 2 and fits_number(thing[1]):
        number = Fraction(*thing[1])
        return 0 <= number <= 1 and rooting.value_of(one, number) < rooting.value_of(other, number)
    if thing[0] != "never worse" or len(thing) != 4:
        return False
    _, odd, even, points = thing
    if not fits_polynomial(odd) or not fits_polynomial(even) or type(points) is not tuple:
        return False
    if len(points) < 2 or not all(map(fits_number, points)):
        return False
    fractions = [Fraction(*number) for number in points]
    ascending = all(low < high for low, high in zip(fractions, fractions[1:]))
    if not ascending or fractions[0] != 0 or fractions[-1] != 1:
        return False
    if one == other and max(len(odd), len(even)) > 40:
        return False
    if len(odd) + len(even) > 80 or counting.multiply(odd, counting.multiply(even, even)) != minus(one, other):
        return False
    return odd == () or all(min(rooting.corners(odd, low, high)) >= 0 for low, high in zip(fractions, fractions[1:]))


# Each with one, other, and papers that this package did not make.
RIGHT = (
    (
        (1, 0, 0, -1),
        (1, 0, -3, 2),
        (
            ("never worse", (3, -3), (0, 1), ((0, 1), (1, 1))),
            ("never worse", (3, -3), (0, -1), ((0, 7), (2, 2))),
            ("never worse", (0, 0, 3, -3), (1,), ((0, 1), (1, 1))),
            ("never worse", (0, 0, 3, -3), (-1,), SIXTEENTHS),
            ("never worse", (3, -3), (0, 1), ((0, 5), (1, 10**30), (1, 3), (2, 4), (10**39 - 1, 10**39), (9, 9))),
        ),
    ),
    (
        (0, 4),
        (),
        (
            ("never worse", (0, 4), (1,), ((0, 1), (1, 1))),
            ("never worse", (0, 1), (2,), ((0, 1), (1, 1))),
            ("never worse", (0, 1), (-2,), ((0, 3), (3, 6), (5, 5))),
        ),
    ),
    (
        rooting.product(9, [(Rational(1, 2), 2), (Rational(-1, 1), 2)]),
        (),
        (
            (
                "never worse",
                (1,),
                counting.scale(3, rooting.product(1, [(Rational(1, 2), 1), (Rational(-1, 1), 1)])),
                SIXTEENTHS,
            ),
            ("never worse", (9, 18, 9), (-1, 2), ((0, 1), (1, 1))),
            ("never worse", (1, -4, 4), (3, 3), ((0, 1), (1, 2), (1, 1))),
            (
                "never worse",
                rooting.product(9, [(Rational(1, 2), 2), (Rational(-1, 1), 2)]),
                (1,),
                ((0, 1), (2, 4), (1, 1)),
            ),
        ),
    ),
    (
        (5, 1),
        (5, 1),
        (
            ("never worse", (), (), ((0, 1), (1, 1))),
            ("never worse", (), (1,) * 40, ((0, 1), (1, 1))),
            ("never worse", (), (-(10**39), 4, 0, 7), SIXTEENTHS),
            ("never worse", (1,) * 40, (), ((0, 1), (1, 3), (1, 1))),
            ("never worse", (0, 2), (), ((0, 1), (1, 1))),
        ),
    ),
    (
        (0, 1),
        (0, 0, 2),
        (
            ("worse", (1, 1)),
            ("worse", (3, 4)),
            ("worse", (6, 8)),
            ("worse", (10**39, 10**39 + 1)),
            ("worse", (501, 1000)),
        ),
    ),
    ((), (1,), (("worse", (0, 1)), ("worse", (0, 99)), ("worse", (1, 1)), ("worse", (GREAT, GREAT)))),
)
WRONG = (
    ((0, 4), (), ("never worse", (0, 4), (-1, 1), ((0, 1), (1, 1)))),
    ((0, 4), (), ("never worse", (0, 4), (), ((0, 1), (1, 1)))),
    ((0, 4), (), ("never worse", (), (1,), ((0, 1), (1, 1)))),
    ((0, 4), (), ("never worse", (0, -4), (1,), ((0, 1), (1, 1)))),
    ((0, 4), (), ("never worse", (0, 4), (1,), ((0, 1), (1, 2), (2, 4), (1, 1)))),
    ((0, 4), (), ("never worse", (0, 4), (1,), ((0, 1), (3, 4), (1, 2), (1, 1)))),
    ((0, 4), (), ("never worse", (0, 4), (1,), ((0, 1),))),
    ((0, 4), (), ("never worse", (0, 4), (1,), ())),
    ((0, 4), (), ("never worse", (0, 4), (1,), ((1, 9), (1, 1)))),
    ((0, 4), (), ("never worse", (0, 4), (1,), ((0, 1), (8, 9)))),
    ((0, 4), (), ("never worse", (0, 4), (1,), ((0, 1), (9, 8)))),
    ((0, 4), (), ("never worse", (0, 4), (1,), ((-1, 8), (1, 1)))),
    ((0, 4), (), ("never worse", (0, 4), (1,), ((0, 0), (1, 1)))),
    ((0, 4), (), ("never worse", (0, 4), (1,), ((0, -1), (1, 1)))),
    ((0, 4), (), ("never worse", (0, 4), (1,), ((0, 1), (-1, -1)))),
    ((0, 4), (), ("worse", (0, 1))),
    ((0, 4), (), ("worse", (-1, 2))),
    # The corner numbers of (1 - 2 p) (1 - 2 p) from 0 to 1 are 1, -1 and 1.
    ((1, -4, 4), (), ("never worse", (1, -4, 4), (1,), ((0, 1), (1, 1)))),
    ((1, -4, 4), (), ("worse", (1, 2))),
    ((5,), (5,), ("never worse", (), (1,) * 41, ((0, 1), (1, 1)))),
    ((5,), (5,), ("never worse", (1,) * 41, (), ((0, 1), (1, 1)))),
    ((5,), (5,), ("never worse", (1,), (1,), ((0, 1), (1, 1)))),
    ((5,), (5,), ("never worse", (-1,), (), ((0, 1), (1, 1)))),
    ((5,), (5,), ("never worse", (0, -2), (), ((0, 1), (1, 1)))),
    ((5,), (5,), ("never worse", (1, -4, 4), (), ((0, 1), (1, 1)))),
    ((5,), (5,), ("worse", (1, 2))),
    ((0, 1), (0, 0, 2), ("worse", (1, 2))),
    ((0, 1), (0, 0, 2), ("worse", (0, 1))),
    ((0, 1), (0, 0, 2), ("worse", (9, 8))),
    ((0, 1), (0, 0, 2), ("worse", (1, 0))),
    ((0, 1), (0, 0, 2), ("worse", (-3, -4))),
)


class NeverWorse(Case):
    def test_right_papers_of_any_make(self):
        for one, other, papers in RIGHT:
            for paper in papers:
                self.assertTrue(is_paper(one, other, paper), paper)
                self.assert_call(True, never_worse_holds, one=one, other=other, thing=paper)

    def test_wrong_papers(self):
        for one, other, paper in WRONG:
            self.assertFalse(is_paper(one, other, paper), paper)
            self.assert_call(False, never_worse_holds, one=one, other=other, thing=paper)

    def test_papers_changed_in_one_place(self):
        for one, other, papers in RIGHT:
            for paper in (*papers[:2], judge_never_worse(one, other)):
                for thing in changes(paper):
                    self.assertIs(never_worse_holds(one, other, thing), is_paper(one, other, thing), thing)

    def test_points_that_are_exchanged_or_left_out(self):
        close = rooting.product(1, [(Square(1, 2), 2), (Rational(1, 3), 2)])
        one, other = counting.add([close, ((1, 1))]), (1, 1)
        paper = judge_never_worse(one, other)
        whole = ("never worse", close, (1,), SIXTEENTHS)
        hard = (1, -1998, 998001, 0, 0, 0, 0, 0, 1)
        many = judge_never_worse(hard, ())
        self.assertLess(9, len(many[3]))
        for one, other, paper in ((one, other, paper), (one, other, whole), (hard, (), many)):
            points = paper[3]
            for at in range(len(points)):
                less = paper[:3] + (points[:at] + points[at + 1 :],)
                turned = paper[:3] + (points[:at] + points[at : at + 2][::-1] + points[at + 2 :],)
                twice = paper[:3] + (points[: at + 1] + points[at:],)
                for thing in (less, turned, twice):
                    self.assertIs(never_worse_holds(one, other, thing), is_paper(one, other, thing), thing)
        self.assertTrue(never_worse_holds(hard, (), many))
        self.assertFalse(never_worse_holds(hard, (), many[:3] + (((0, 1), (1, 1)),)))

    def test_many_points_and_many_coefficients(self):
        points = tuple((at, 199) for at in range(200))
        even = tuple((-1) ** at * (10**29 + at) for at in range(6))
        difference = counting.multiply((7, 3), counting.multiply(even, even))
        paper = ("never worse", (7, 3), even, points)
        self.assert_call(True, never_worse_holds, one=difference, other=(), thing=paper)
        odd = tuple(10**29 + at for at in range(12))
        self.assert_call(True, never_worse_holds, one=odd, other=(), thing=("never worse", odd, (1,), points))
        self.assert_call(False, never_worse_holds, one=(), other=odd, thing=("never worse", odd, (1,), points))

    def test_any_other_values(self):
        for one, other, _ in RIGHT:
            for thing in [
                *any_values(),
                ("never worse",) * 4,
                ("never worse", (0,) * 2999, (1,), ()),
                ("worse", (1,) * 3000),
            ]:
                self.assert_call(False, never_worse_holds, one=one, other=other, thing=thing)

    def test_long_values_in_the_places_of_parts(self):
        long = (1,) * 2990
        for one, other in (((0, 4), ()), ((5,), (5,))):
            for parts in ((long, long), (long, (1,)), ((1,), long), (long, ()), ((), long)):
                thing = ("never worse", *parts, ((0, 1), (1, 1)))
                self.assert_call(False, never_worse_holds, one=one, other=other, thing=thing)

    def test_errors(self):
        checks = [("one", BadPolynomial, NO_POLYNOMIALS), ("other", BadPolynomial, NO_POLYNOMIALS)]
        for thing in (("worse", (0, 1)), None, ("never worse", (), (), ((0, 1), (1, 1)))):
            self.assert_errors(never_worse_holds, {"one": (), "other": (1,), "thing": thing}, checks)


def returns_all(table):
    """The sets that have the rank of all, in order."""
    rank = rankings.as_dict(table)
    return [places for places in brute.sets(rankings.PLACES[len(table)]) if rank[places] == table[-1]]


def least(sets):
    return tuple(one for one in sets if not any(set(other) < set(one) for other in sets))


def is_places_paper(one, other, thing):
    """Whether any value is a right paper of [6.10]."""
    n = rankings.PLACES[len(one)]
    if type(thing) is not tuple or len(thing) != 2 or type(thing[0]) is not str or type(thing[1]) is not tuple:
        return False
    kind, proof = thing
    if kind == "worse":
        return is_places(n, proof) and proof in returns_all(other) and proof not in returns_all(one)
    if kind != "never worse" or not all(is_places(n, places) for places in proof):
        return False
    return proof == least(returns_all(other)) and set(proof) <= set(returns_all(one))


def table_pairs():
    """Two tables of as many places each, of all kinds."""
    small = rankings.small_tables()
    great = rankings.great_tables() + counting.eight_tables() + counting.middle_tables()
    found = [(one, other) for one, other in pairs_of(small, small) if len(one) == len(other)]
    found = found[::3] + [(one, one) for one in small]
    return found + [(one, other) for one, other in pairs_of(great, great) if len(one) == len(other)]


class ByPlaces(Case):
    def test_papers(self):
        kinds = set()
        for one, other in table_pairs():
            worse = [places for places in returns_all(other) if places not in returns_all(one)]
            wanted = ("worse", worse[0]) if worse else ("never worse", least(returns_all(other)))
            kinds.add((wanted[0], len(one)))
            self.assert_call(wanted, judge_by_places, one=one, other=other)
            self.assertTrue(is_places_paper(one, other, wanted))
            self.assertIs(by_places_holds(one, other, wanted), True)
            for places in worse:
                self.assertIs(by_places_holds(one, other, ("worse", places)), True)
            bases = ("never worse", least(returns_all(other)))
            self.assertIs(by_places_holds(one, other, bases), not worse)
        self.assertEqual(kinds, {(kind, 2**n) for kind in ("worse", "never worse") for n in range(1, 9)})

    def test_what_a_paper_says_of_told_chances(self):
        for one, other in table_pairs()[::9]:
            n = rankings.PLACES[len(one)]
            kind, proof = judge_by_places(one, other)
            if kind == "worse":
                told = tuple((int(place not in proof), 1) for place in range(n))
                self.assertEqual((return_chance(one, told), return_chance(other, told)), ((0, 1), (1, 1)))
            else:
                told = tuple((1 + place, 3 + place) for place in range(n))
                self.assertGreaterEqual(Fraction(*return_chance(one, told)), Fraction(*return_chance(other, told)))

    def test_papers_changed_in_one_place(self):
        for one, other in table_pairs()[:60:4] + [(rankings.uniform(5, 3), rankings.uniform(5, 4))]:
            for paper in (judge_by_places(one, other), judge_by_places(other, one)):
                for thing in changes(paper):
                    self.assertIs(by_places_holds(one, other, thing), is_places_paper(one, other, thing), thing)

    def test_any_other_values(self):
        for one, other in table_pairs()[::20]:
            for thing in any_values():
                self.assert_call(False, by_places_holds, one=one, other=other, thing=thing)

    def test_errors(self):
        checks = [("one", BadTable, NO_TABLES), ("other", BadTable, NO_TABLES)]
        for table in ((0, 1, 1, 2, 1, 2, 2, 2), rankings.bookless()):
            self.assert_errors(judge_by_places, {"one": table, "other": table}, checks)
            self.assert_errors(by_places_holds, {"one": table, "other": table, "thing": ("worse", ())}, checks)

    def test_unlike_numbers_of_places(self):
        for one, other in (((0, 1), (0, 1, 1, 1)), (rankings.uniform(8, 2), (0, 0)), ((0, 1, 1, 2), (0, 1))):
            self.assert_error(OtherPlaces(), judge_by_places, one=one, other=other)
            self.assert_error(OtherPlaces(), by_places_holds, one=one, other=other, thing=("worse", ()))
            self.assert_error(BadTable((0, 2)), judge_by_places, one=one, other=(0, 2))
            self.assert_error(BadTable((0, 2)), by_places_holds, one=(0, 2), other=other, thing=None)

    def test_worked_out(self):
        any_two, mirrored = (0, 1, 1, 2, 1, 2, 2, 2), (0, 1, 1, 1, 1, 1, 1, 1)
        self.assert_call(("never worse", ((0, 1), (0, 2), (1, 2))), judge_by_places, one=mirrored, other=any_two)
        self.assert_call(("worse", (0,)), judge_by_places, one=any_two, other=mirrored)


if __name__ == "__main__":
    unittest.main()
