"""mirrorbook/questions.py: [8.1] Questions."""

import unittest

from mirrorbook import books, compared, counts, ladderpapers, orders, readers, sealed, tableforms
from mirrorbook.books import Book
from mirrorbook.errors import BadQuestion
from mirrorbook.pairs import Pair
from mirrorbook.questions import is_question, is_told_yes, judged, paper_holds
from mirrorbook.readers import reader_of
from mirrorbook.tables import table_of
from tests import asking, counting, rankings, sealing
from tests.asking import EVEN, R, U
from tests.samples import GREAT, Case, any_values, changes, others

QUESTIONS = asking.questions()
FUNCTIONS = {
    "word": (books.judge_word, books.word_holds),
    "places": (tableforms.judge_places, tableforms.places_holds),
    "balanced": (counts.judge_balance, counts.balance_holds),
    "reach": (ladderpapers.judge_reach, ladderpapers.reach_holds),
    "chain": (ladderpapers.judge_chain, ladderpapers.chain_holds),
    "reader": (readers.judge_reader, readers.reader_holds),
    "least": (readers.judge_least, readers.least_holds),
    "narrow": (orders.judge_narrow, orders.narrow_holds),
    "short": (orders.judge_short, orders.short_holds),
    "never worse": (compared.judge_never_worse, compared.never_worse_holds),
    "by places": (compared.judge_by_places, compared.by_places_holds),
    "letter": (sealed.judge_letter, sealed.letter_holds),
}
# For each kind of question the papers of the kind that is named first, and the other ones.
KINDS = {
    "word": ("made", "fails"),
    "places": ("ring", "parted"),
    "balanced": ("balanced", "unbalanced"),
    "reach": ("reached", "barred"),
    "chain": ("chain", "broken"),
    "reader": ("same", "differs"),
    "least": ("least", "spare"),
    "narrow": ("order", "shut"),
    "short": ("order", "long"),
    "never worse": ("never worse", "worse"),
    "by places": ("never worse", "worse"),
    "letter": ("key", "alibi"),
}
READER = reader_of(EVEN, (0, 1, 2))
NO_QUESTIONS = [
    ("places", R, 1, 1),
    ("places", R, 0, 3),
    ("places", R, True, 0),
    ("places", (0, 1, 1, 2, 1, 2, 2, 1), 0, 1),
    ("places", list(R), 0, 1),
    ("places", R, 0),
    ("places", R, 0, 1, 2),
    ("balanced", R, 2, 3),
    ("balanced", R, 4, 0),
    ("balanced", R, -1, 0),
    ("balanced", R, 2, -1),
    ("balanced", R, 2, True),
    ("reach", R, 0, 1),
    ("reach", R, 3, 1),
    ("reach", R, 1, 4),
    ("reach", R, 1, -1),
    ("reach", R, True, 1),
    ("reach", (0, 0), 1, 1),
    ("reach", (0, 0), 0, 1),
    ("chain",),
    ("chain", R, 1),
    ("chain", EVEN),
    ("chain", (0, 2)),
    ("word", EVEN, (1, 1)),
    ("word", EVEN, (1, 1, 0, 0)),
    ("word", EVEN, (1, 1, 2)),
    ("word", EVEN, (1, True, 0)),
    ("word", EVEN, [1, 1, 0]),
    ("word", R, (1, 1, 0)),
    ("word", asking.PAIRS[0], (1, 1, 0)),
    ("reader", EVEN, (0, 1, 2), reader_of(Book(3, 3, ()), (0, 1, 2))),
    ("reader", EVEN, (0, 1, 2), reader_of(Book(2, 4, ()), (0, 1, 2, 3))),
    ("reader", EVEN, (0, 1), READER),
    ("reader", EVEN, (0, 1, 1), READER),
    ("reader", EVEN, [0, 1, 2], READER),
    ("reader", READER, (0, 1, 2), EVEN),
    ("least", EVEN),
    ("least", READER[:2]),
    ("narrow", R, -2),
    ("narrow", R, 41),
    ("narrow", R, True),
    ("narrow", R),
    ("short", R, -2),
    ("short", R, 41),
    ("short", R, None),
    ("never worse", (1, 0), (1,)),
    ("never worse", (1,), (0,)),
    ("never worse", (1,), [1]),
    ("never worse", (True,), (1,)),
    ("never worse", (1,)),
    ("by places", R, U),
    ("by places", R, (0, 1, 1, 2, 1, 2, 2, 1)),
    ("by places", R),
    ("letter", asking.PAIRS[0], (0, 1), (0,)),
    ("letter", asking.PAIRS[0], (1, 0), (1,)),
    ("letter", asking.PAIRS[0], (0, 1, 3), (1,)),
    ("letter", asking.PAIRS[0], (0, 1), (1, 0)),
    ("letter", asking.PAIRS[0], (0, 1), (3,)),
    ("letter", asking.PAIRS[0], (0, 1), (True,)),
    ("letter", asking.PAIRS[1], (2, 1, 0), (1, 1)),
    ("letter", asking.PAIRS[1], (0,), (0, 0)),
    ("letter", EVEN, (0, 1), (1,)),
    ("letters", asking.PAIRS[0], (0, 1), (1,)),
    ("made", EVEN, (1, 1, 0)),
    (("word",), EVEN, (1, 1, 0)),
    (None, R),
    (EVEN, R),
    ("chain", R, R),
    ["chain", R],
    (),
    "chain",
]


class Questions(Case):
    def test_questions_of_all_kinds(self):
        self.assertEqual({question[0] for question in QUESTIONS}, set(FUNCTIONS))
        for question in QUESTIONS:
            self.assertTrue(asking.fits(question))
            self.assert_call(True, is_question, thing=question)

    def test_limits_play_no_part(self):
        for thing in (
            ("narrow", rankings.bookless(), 40),
            ("short", rankings.uniform(8, 4), -1),
            ("never worse", (GREAT,) * 300, (1,)),
            ("word", Book(5, 8, ()), (4,) * 8),
            ("least", (5, (1,) + (64,) * 7 + (1,), ((),) * 8)),
        ):
            self.assert_call(True, is_question, thing=thing)

    def test_values_that_are_none(self):
        for thing in [*NO_QUESTIONS, *any_values()]:
            self.assertFalse(asking.fits(thing), thing)
            self.assert_call(False, is_question, thing=thing)

    def test_something_otherwise_at_any_depth(self):
        met = {kind: [0, 0] for kind in FUNCTIONS}
        for kind in FUNCTIONS:
            own = [question for question in QUESTIONS if question[0] == kind]
            for question in (own[0], own[len(own) // 2], own[-1]):
                for thing in changes(question):
                    wanted = asking.fits(thing)
                    met[kind][wanted] += 1
                    self.assertIs(is_question(thing), wanted, thing)
        self.assertTrue(all(wrong > 200 for wrong, _ in met.values()), met)
        self.assertTrue(all(right > 0 for kind, (_, right) in met.items() if kind != "chain"), met)


class Judged(Case):
    def test_papers_are_those_of_the_parts(self):
        met = set()
        for question in QUESTIONS:
            judge, holds = FUNCTIONS[question[0]]
            paper = judge(*question[1:])
            met.add((question[0], paper[0]))
            self.assert_call(paper, judged, question=question)
            self.assert_call(True, paper_holds, question=question, thing=paper)
            told_yes = paper[0] == KINDS[question[0]][0]
            self.assertIn(paper[0], KINDS[question[0]])
            self.assert_call(told_yes, is_told_yes, question=question)
        wanted = {(kind, paper) for kind, papers in KINDS.items() for paper in papers}
        # "chain" of a table without one is asked below.
        self.assertEqual(wanted - met, {("chain", "broken")})

    def test_a_table_without_a_chain(self):
        question = ("chain", asking.BROKEN)
        self.assert_call(False, is_told_yes, question=question)
        self.assert_call(True, paper_holds, question=question, thing=("broken", (((0, 1),), ())))
        self.assertEqual(judged(question)[0], "broken")

    def test_papers_of_other_questions(self):
        papers = [judged(question) for question in QUESTIONS[::5]]
        for question in QUESTIONS[::3]:
            holds = FUNCTIONS[question[0]][1]
            for paper in papers:
                self.assertIs(paper_holds(question, paper), holds(*question[1:], paper))

    def test_papers_changed_in_one_place(self):
        for question in QUESTIONS[::23]:
            holds = FUNCTIONS[question[0]][1]
            for thing in changes(judged(question)):
                self.assertIs(paper_holds(question, thing), holds(*question[1:], thing), thing)

    def test_any_other_values(self):
        for question in QUESTIONS[::17]:
            for thing in any_values():
                self.assert_call(False, paper_holds, question=question, thing=thing)

    def test_papers_of_no_question(self):
        for question in [*NO_QUESTIONS, *any_values()]:
            for thing in (("made", (1, 1)), ("ring", (0, 1, 2)), None, judged(("chain", R))):
                self.assert_call(False, paper_holds, question=question, thing=thing)

    def test_values_that_are_no_questions(self):
        for call in (judged, is_told_yes):
            checks = [("question", BadQuestion, NO_QUESTIONS + others(asking.fits))]
            self.assert_errors(call, {"question": ("chain", R)}, checks)

    def test_eight_places(self):
        eight = counting.eight_tables()[0]
        pair = sealing.eight_pairs()[0].pair()
        book = Book(2, 8, ((1, 1, 1, 1, 0, 0, 0, 0), (0, 0, 1, 1, 1, 1, 0, 0), (0, 1, 0, 1, 0, 1, 0, 1)))
        order = (3, 1, 4, 0, 5, 2, 6, 7)
        for question in (
            ("word", book, (1,) * 8),
            ("places", eight, 0, 7),
            ("balanced", eight, 4, 2),
            ("reach", eight, 2, 5),
            ("chain", rankings.bookless()),
            ("reader", book, order, reader_of(book, order)),
            ("least", reader_of(book, order)),
            ("by places", eight, rankings.bookless()),
            ("letter", pair, (0, 2, 4, 6), (1,) * pair.length),
        ):
            judge, holds = FUNCTIONS[question[0]]
            self.assert_call(judge(*question[1:]), judged, question=question)
            self.assertTrue(is_question(question) and paper_holds(question, judged(question)))
            self.assertIs(is_told_yes(question), judged(question)[0] == KINDS[question[0]][0])
        for kind in ("narrow", "short"):
            seven = table_of(Book(2, 7, ((1, 1, 1, 1, 0, 0, 0), (0, 0, 1, 1, 1, 1, 0), (0, 1, 0, 1, 0, 1, 1))))
            for m in (0, 1, 2, 3, 40):
                self.assertTrue(paper_holds((kind, seven, m), judged((kind, seven, m))))


class Mixed(Case):
    def test_pairs_and_books_are_not_taken_for_one_another(self):
        pair = asking.PAIRS[0]
        self.assertIsInstance(pair, Pair)
        self.assert_call(False, is_question, thing=("letter", pair.big, (0,), (1,)))
        self.assert_call(False, is_question, thing=("word", pair, (1, 0, 2)))


if __name__ == "__main__":
    unittest.main()
