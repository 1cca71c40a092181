"""The interface: each name stands in its file, with its parameters as they are listed."""

import importlib
import inspect
import unittest

from mirrorbook import books, house, pairs

FUNCTIONS = {
    "fields": {
        "is_letter": "q, thing",
        "add": "q, one, other",
        "subtract": "q, one, other",
        "times": "q, one, other",
        "inverse": "q, letter",
        "word_sum": "q, one, other",
        "word_times": "q, letter, word",
        "product": "q, one, other",
        "support": "q, word",
        "weight": "q, word",
    },
    "books": {
        "leads": "book",
        "made": "book, amounts",
        "words": "book, *, most=4096",
        "is_word": "book, thing",
        "judge_word": "book, word",
        "word_holds": "book, word, thing",
        "stack_support": "book, stack",
    },
    "bookforms": {
        "mirror": "book",
        "without": "book, places",
        "fixed": "book, places",
        "beside": "one, other",
        "repeated": "book, place",
        "turned": "book, order, factors",
        "sum_of": "one, other",
        "common": "one, other",
        "is_within": "one, other",
    },
    "tables": {
        "set_number": "places",
        "set_of": "number",
        "is_table": "thing",
        "first_fault": "ranks",
        "fault_holds": "ranks, thing",
        "table_of": "book",
        "uniform_table": "n, k",
        "places_of": "table",
        "rank": "table, places",
        "full_rank": "table",
    },
    "tableforms": {
        "mirror_table": "table",
        "table_without": "table, places",
        "table_fixed": "table, places",
        "tables_beside": "one, other",
        "table_repeated": "table, place",
        "table_turned": "table, order",
        "hold": "table, places",
        "closure": "table, places",
        "is_free": "table, places",
        "is_closed": "table, places",
        "is_cover": "table, places",
        "bases": "table",
        "rings": "table",
        "closed_sets": "table",
        "covers": "table",
        "pieces": "table",
        "judge_places": "table, one, other",
        "places_holds": "table, one, other, thing",
    },
    "polynomials": {
        "is_polynomial": "thing",
        "trimmed": "coefficients",
        "plus": "one, other",
        "minus": "one, other",
        "times": "one, other",
        "scaled": "integer, one",
        "power": "one, many",
        "value": "one, integer",
        "value_at": "one, number",
    },
    "counts": {
        "count_within": "table, places",
        "count_of": "table, places",
        "count_over": "table, places",
        "weights": "table",
        "weights_at": "table, integer",
        "rank_counts": "table",
        "subcounts": "q, polynomial",
        "cover_number": "table, places, b",
        "weight_over": "table, weight, places",
        "balance": "table, weight",
        "told_balance": "table",
        "judge_balance": "table, weight, t",
        "balance_holds": "table, weight, t, thing",
    },
    "turning": {
        "turned_weights": "counts",
        "ranks_of_weights": "counts",
        "weights_of_ranks": "rows",
        "turned_ranks": "rows",
    },
    "ladders": {
        "ladder": "table",
        "least_ranks": "table",
        "greatest_holds": "table",
        "mirror_ladder": "n, steps",
        "least_sets": "table, j",
        "gap": "table, q",
    },
    "ladderpapers": {
        "judge_reach": "table, j, size",
        "reach_holds": "table, j, size, thing",
        "judge_chain": "table",
        "chain_holds": "table, thing",
    },
    "cuts": {
        "cuts": "table, order",
        "cut_bounds": "table",
        "spans": "table, order",
        "starts": "table, order",
        "ends": "table, order",
    },
    "readers": {
        "span_rows": "book, order",
        "are_span_rows": "book, order, thing",
        "is_reader": "thing",
        "reader_of": "book, order",
        "does_accept": "reader, thing",
        "accepted": "reader, *, most=4096",
        "live_rooms": "reader",
        "weights_along": "reader",
        "reduced_reader": "reader",
        "judge_reader": "book, order, reader",
        "reader_holds": "book, order, reader, thing",
        "judge_least": "reader",
        "least_holds": "reader, thing",
    },
    "orders": {
        "best_order": "table",
        "best_load": "table",
        "smooth_order": "table",
        "judge_narrow": "table, m",
        "narrow_holds": "table, m, thing",
        "judge_short": "table, m",
        "short_holds": "table, m, thing",
    },
    "chances": {
        "return_poly": "table",
        "known_poly": "table",
        "free_poly": "table",
        "doubt_poly": "table, place",
        "turning_poly": "table, place",
        "return_chance": "table, chances",
        "known_amount": "table, chances",
        "doubt_chance": "table, place, chances",
        "area": "polynomial",
        "swapped": "polynomial",
        "half_point": "table, bits",
    },
    "roots": {
        "parts_of": "polynomial",
        "many_roots": "polynomial, low, high",
        "corners": "polynomial, low, high",
    },
    "compared": {
        "judge_never_worse": "one, other",
        "never_worse_holds": "one, other, thing",
        "first_sign": "one, other",
        "crossings": "one, other",
        "crossing": "one, other, number, bits",
        "judge_by_places": "one, other",
        "by_places_holds": "one, other, thing",
    },
    "pairs": {
        "mirrored": "pair",
        "dealt": "book, places",
        "pairs_beside": "one, other",
        "told_by": "pair, places",
        "does_open": "pair, places",
        "is_deaf": "pair, places",
        "openers": "pair",
        "deaf_sets": "pair",
        "reaches": "pair",
        "sures": "pair",
        "reaching": "pair, j",
        "told_chance": "pair, j",
        "told_amount": "pair",
    },
    "sealed": {
        "sealed": "pair, message, noise",
        "message_of": "pair, word",
        "noise_of": "pair, word",
        "heard": "pair, places, hearing",
        "judge_letter": "pair, places, wish",
        "letter_holds": "pair, places, wish, thing",
        "opening": "pair, places",
        "does_tell_apart": "pair, places, one, other",
    },
    "questions": {
        "is_question": "thing",
        "judged": "question",
        "paper_holds": "question, thing",
        "is_told_yes": "question",
        "turned_question": "question, order",
        "turned_paper": "question, paper, order",
    },
    "house": {
        "promise_fault_holds": "house, promise, thing",
    },
}

METHODS = {
    ("books", "Book"): {
        "__init__": "self, q, n, rows",
        "__eq__": "self, other",
        "__str__": "self",
        "read": "text",
    },
    ("pairs", "Pair"): {
        "__init__": "self, big, small",
        "__eq__": "self, other",
        "__str__": "self",
        "read": "text",
    },
    ("house", "House"): {
        "__init__": "self",
        "__eq__": "self, other",
        "__str__": "self",
        "read": "text",
        "copy": "self",
        "names": "self",
        "book": "self, name",
        "pair": "self, name",
        "promises": "self",
        "deals": "self",
        "deal": "self, changes",
        "change": "self, change",
        "would": "self, changes",
        "undo": "self",
        "redo": "self",
        "judged": "self, promise",
    },
    ("console", "Console"): {
        "__init__": "self, house",
        "run": "self, line",
    },
}


class Interface(unittest.TestCase):
    def test_functions(self):
        for file, functions in FUNCTIONS.items():
            module = importlib.import_module("mirrorbook." + file)
            for name, parameters in functions.items():
                function = getattr(module, name)
                self.assertTrue(inspect.isfunction(function), name)
                self.assertEqual(function.__module__, module.__name__, name)
                self.assertEqual(str(inspect.signature(function)), f"({parameters})", name)

    def test_classes_and_their_own_methods(self):
        for (file, name), methods in METHODS.items():
            module = importlib.import_module("mirrorbook." + file)
            kind = getattr(module, name)
            self.assertEqual(kind.__module__, module.__name__)
            for method, parameters in methods.items():
                self.assertIn(method, vars(kind))
                self.assertEqual(str(inspect.signature(getattr(kind, method))), f"({parameters})", method)

    def test_read_is_a_class_method(self):
        for kind in (books.Book, pairs.Pair, house.House):
            self.assertIsInstance(vars(kind)["read"], classmethod)


if __name__ == "__main__":
    unittest.main()
