"""mirrorbook/questions.py: [8.2] Turned questions."""

import unittest
from itertools import permutations
from random import Random

from mirrorbook.errors import BadOrder, BadPaper, BadQuestion
from mirrorbook.questions import is_told_yes, judged, paper_holds, turned_paper, turned_question
from mirrorbook.tableforms import mirror_table
from tests import asking, brute, counting, rankings
from tests.asking import BROKEN, R, TWOS, U, places_of
from tests.samples import Case, any_values, changes, is_letters, others

CAN_BE_TURNED = ("places", "balanced", "reach", "chain", "narrow", "short", "by places")
QUESTIONS = list(asking.of_tables(asking.TABLES))
OTHERS = list(asking.of_others())
GREAT = [
    ("places", counting.eight_tables()[0], 0, 5),
    ("balanced", rankings.bookless(), 5, 3),
    ("reach", counting.eight_tables()[1], 2, 4),
    ("chain", rankings.bookless()),
    ("chain", BROKEN),
    ("by places", rankings.uniform(8, 3), rankings.bookless()),
    ("narrow", rankings.fano(False), 1),
    ("short", rankings.fano(True), 4),
    ("short", rankings.fano(True), 40),
]


def table_turned(table, order):
    """The table whose place i stands for the old place order[i]."""
    rank = rankings.as_dict(table)
    return rankings.as_ranks(len(order), lambda places: rank[tuple(sorted(order[place] for place in places))])


def question_turned(question, order):
    kind, table, *rest = question
    if kind == "places":
        rest = [new_name(order, place) for place in rest]
    if kind == "by places":
        rest = [table_turned(rest[0], order)]
    return (kind, table_turned(table, order), *rest)


def new_name(order, place):
    return [at for at, old in enumerate(order) if old == place][0]


def set_turned(order, places):
    return tuple(sorted(new_name(order, place) for place in places))


def sets_turned(order, sets):
    return tuple(sorted((set_turned(order, places) for places in sets), key=lambda places: (len(places), places)))


def paper_turned(question, paper, order):
    """The paper with its places renamed, kind by kind."""
    kind, *rest = paper
    if kind == "balanced":
        return paper
    if kind == "unbalanced":
        return (kind, *[set_turned(order, places) for places in rest])
    (proof,) = rest
    if kind in ("ring", "parted", "reached") or (question[0], kind) == ("by places", "worse"):
        return (kind, set_turned(order, proof))
    if kind in ("barred", "chain", "shut", "never worse"):
        return (kind, sets_turned(order, proof))
    if kind == "broken":
        return (kind, tuple(sets_turned(order, row) for row in proof))
    if kind == "order":
        return (kind, tuple(new_name(order, place) for place in proof))
    numbers = [None] * len(proof)
    for places in brute.sets(len(order)):
        numbers[brute.number_of(set_turned(order, places))] = proof[brute.number_of(places)]
    return (kind, tuple(numbers))


def orders_of(question):
    n = places_of(question[1])
    every = list(permutations(range(n)))
    return every if n < 4 else Random(n).sample(every, 4)


def back(order):
    return tuple(new_name(order, place) for place in range(len(order)))


class Turned(Case):
    def test_questions_and_their_papers(self):
        met = set()
        for question in QUESTIONS + GREAT:
            paper = judged(question)
            met.add((question[0], paper[0]))
            for order in orders_of(question):
                wanted = question_turned(question, order)
                self.assert_same(turned_question(question, order), wanted)
                self.assertIs(is_told_yes(wanted), is_told_yes(question))
                found = turned_paper(question, paper, order)
                self.assert_same(found, paper_turned(question, paper, order))
                self.assertTrue(paper_holds(wanted, found))
                self.assert_same(turned_question(wanted, back(order)), question)
                self.assert_same(turned_paper(wanted, found, back(order)), paper)
            self.assert_call(wanted, turned_question, question=question, order=order)
            self.assert_call(found, turned_paper, question=question, paper=paper, order=order)
        self.assertEqual(len(met), 14)

    def test_papers_of_any_make(self):
        for question, paper in (
            (("reach", TWOS, 1, 2), ("reached", (0, 1))),
            (("reach", TWOS, 1, 3), ("reached", (0, 2, 3))),
            (("reach", TWOS, 1, 1), ("barred", ((0, 2), (1, 3)))),
            (("reach", TWOS, 1, 1), ("barred", ((0, 2), (0, 3), (1, 3)))),
            (("places", TWOS, 0, 2), ("parted", (0, 1))),
            (("balanced", TWOS, 2, 2), ("unbalanced", (2, 3), (0, 2))),
            (("balanced", TWOS, 2, 2), ("unbalanced", (1, 3), (0, 1))),
            (("chain", TWOS), ("chain", ((2, 3), (0, 1, 2, 3)))),
            (("chain", (0, 0, 0, 0)), ("chain", ())),
            (("chain", BROKEN), ("broken", (((0, 1), (0, 1, 2)), ()))),
            (("chain", BROKEN), ("broken", (((1,), (0, 1), (0, 2)), (), ()))),
            (("narrow", TWOS, 1), ("order", (2, 3, 1, 0))),
            (("narrow", TWOS, 0), ("shut", ((0,), (1,), (2,), (3,)))),
            (("narrow", TWOS, 0), ("shut", ((0,), (1,), (2,), (3,), (0, 2)))),
            (("short", TWOS, 1), ("long", (0, 1, 1, 1, 1, 3, 3, 2, 1, 3, 3, 2, 1, 2, 2, 2))),
            (("short", TWOS, 1), ("long", (0, 1, 1, 1, 1, 2, 3, 2, 1, 3, 3, 2, 1, 2, 2, 2))),
            (("by places", TWOS, U), ("worse", (0, 1))),
            (("by places", TWOS, U), ("worse", (2, 3))),
        ):
            self.assertTrue(paper_holds(question, paper), paper)
            for order in permutations(range(places_of(question[1]))):
                found = turned_paper(question, paper, order)
                self.assert_same(found, paper_turned(question, paper, order))
                self.assertTrue(paper_holds(turned_question(question, order), found))
                self.assert_same(turned_paper(turned_question(question, order), found, back(order)), paper)
                if places_of(question[1]) > 4 and order[2] > 0:
                    break

    def test_the_first_set_of_unbalanced_stays_the_first_one(self):
        paper = ("unbalanced", (2, 3), (0, 2))
        found = turned_paper(("balanced", TWOS, 2, 2), paper, (3, 2, 1, 0))
        self.assert_same(found, ("unbalanced", (0, 1), (1, 3)))
        found = turned_paper(("balanced", TWOS, 2, 2), found, (2, 3, 0, 1))
        self.assert_same(found, ("unbalanced", (2, 3), (1, 3)))

    def test_narrow_and_short_of_the_mirror_have_the_same_papers(self):
        for question in QUESTIONS + GREAT:
            if question[0] in ("narrow", "short"):
                mirrored = (question[0], mirror_table(question[1]), question[2])
                self.assert_same(judged(mirrored), judged(question))
                self.assertTrue(paper_holds(mirrored, judged(question)))


class Errors(Case):
    NOT_TURNED = (
        OTHERS + others(asking.fits) + [("chain",), ("places", R, 0, 0), ("narrow", R, 41), [], ("chain", [0, 1])]
    )

    def test_questions_that_cannot_be_turned(self):
        self.assertEqual({question[0] for question in OTHERS} & set(CAN_BE_TURNED), set())
        orders = [(0, 1), (0, 1, 1), [0, 1, 2], (0, 1, True), (0, 1, 2, 3), *others(lambda thing: is_order(3, thing))]
        for question in (("chain", R), ("narrow", R, 1), ("by places", R, R)):
            checks = [("question", BadQuestion, self.NOT_TURNED), ("order", BadOrder, orders)]
            self.assert_errors(turned_question, {"question": question, "order": (2, 0, 1)}, checks)

    def test_papers_that_are_none(self):
        orders = [(0, 1), (0, 1, 1), [0, 1, 2], (0, 1, True), (0, 1, 2, 3), *others(lambda thing: is_order(3, thing))]
        for question in (("places", R, 0, 1), ("balanced", R, 2, 1), ("narrow", R, 1), ("by places", R, R)):
            paper = judged(question)
            wrong = [thing for thing in changes(paper) if not paper_holds(question, thing)][:150]
            papers = wrong + any_values() + [judged(("chain", R)), [*paper], paper + ((),)]
            checks = [
                ("question", BadQuestion, self.NOT_TURNED),
                ("paper", BadPaper, papers),
                ("order", BadOrder, orders),
            ]
            right = {"question": question, "paper": paper, "order": (2, 0, 1)}
            self.assert_errors(turned_paper, right, checks)

    def test_each_kind_with_a_wrong_order(self):
        for question in QUESTIONS[::7] + GREAT:
            n = places_of(question[1])
            for order in (tuple(range(n + 1)), tuple(range(n - 1)), (0,) * n if n > 1 else (1,), list(range(n))):
                self.assert_error(BadOrder(order), turned_question, question=question, order=order)
                given = {"question": question, "paper": judged(question), "order": order}
                self.assert_error(BadOrder(order), turned_paper, **given)
                self.assert_error(BadPaper(None), turned_paper, question=question, paper=None, order=order)


def is_order(n, thing):
    return is_letters(n, thing) and sorted(thing) == list(range(n))


class WorkedOut(Case):
    def test_two_places(self):
        for table in (TWOS, U, rankings.uniform(4, 0)):
            wanted = ("places", table_turned(table, (3, 2, 1, 0)), 1, 0)
            self.assert_call(wanted, turned_question, question=("places", table, 2, 3), order=(3, 2, 1, 0))


if __name__ == "__main__":
    unittest.main()
