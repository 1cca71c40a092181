"""Questions about books, tables, readers, polynomials and pairs, and their papers."""

from mirrorbook.books import Book, judge_word, word_holds
from mirrorbook.compared import by_places_holds, judge_by_places, judge_never_worse, never_worse_holds
from mirrorbook.counts import balance_holds, judge_balance
from mirrorbook.errors import BadOrder, BadPaper, BadQuestion
from mirrorbook.ladderpapers import chain_holds, judge_chain, judge_reach, reach_holds
from mirrorbook.orders import judge_narrow, judge_short, narrow_holds, short_holds
from mirrorbook.pairs import Pair
from mirrorbook.places import in_order, is_order, is_set
from mirrorbook.polynomials import is_polynomial
from mirrorbook.readers import is_reader, judge_least, judge_reader, least_holds, reader_holds
from mirrorbook.sealed import is_wish, judge_letter, letter_holds
from mirrorbook.tableforms import drawn, judge_places, places_holds, table_turned
from mirrorbook.tables import count_places, is_table
from mirrorbook.values import is_integer_from, is_row

SIZES = {
    "word": 3,
    "places": 4,
    "balanced": 4,
    "reach": 4,
    "chain": 2,
    "reader": 4,
    "least": 2,
    "narrow": 3,
    "short": 3,
    "never worse": 3,
    "by places": 3,
    "letter": 4,
}
YES = ("made", "ring", "balanced", "reached", "chain", "same", "least", "order", "never worse", "key")
OF_A_TABLE = ("places", "balanced", "reach", "chain", "narrow", "short")


def is_question(thing):
    """Whether any value is a question."""
    if not isinstance(thing, tuple) or len(thing) < 2 or not isinstance(thing[0], str):
        return False
    kind = thing[0]
    if SIZES.get(kind) != len(thing):
        return False
    parts = thing[1:]
    if kind in OF_A_TABLE:
        return is_table(parts[0]) and is_question_of_table(kind, parts)
    if kind == "word":
        return isinstance(parts[0], Book) and is_row(parts[0].q, parts[0].n, parts[1])
    if kind == "reader":
        return is_question_of_reader(*parts)
    if kind == "least":
        return is_reader(parts[0])
    if kind == "never worse":
        return is_polynomial(parts[0]) and is_polynomial(parts[1])
    if kind == "by places":
        return is_table(parts[0]) and is_table(parts[1]) and len(parts[0]) == len(parts[1])
    return is_question_of_pair(*parts)


def is_question_of_table(kind, parts):
    """Whether the parts behind a table are those of a question of this kind."""
    table = parts[0]
    n = count_places(table)
    if kind == "places":
        return is_integer_from(parts[1], 0, n - 1) and is_integer_from(parts[2], 0, n - 1) and parts[1] != parts[2]
    if kind == "balanced":
        return is_integer_from(parts[1], 0, n) and is_integer_from(parts[2], 0, parts[1])
    if kind == "reach":
        return is_integer_from(parts[1], 1, table[-1]) and is_integer_from(parts[2], 0, n)
    return kind == "chain" or is_integer_from(parts[1], -1, 40)


def is_question_of_reader(book, order, reader):
    """Whether any three values are a book, an order of its places, and a reader of as many letters and places."""
    if not isinstance(book, Book) or not is_order(book.n, order) or not is_reader(reader):
        return False
    return book.q == reader[0] and book.n == len(reader[2])


def is_question_of_pair(pair, places, wish):
    """Whether any three values are a pair, a set of its places, and a wish."""
    return isinstance(pair, Pair) and is_set(pair.n, places) and is_wish(pair, wish)


def check_question(question):
    if not is_question(question):
        raise BadQuestion(question)


def judged(question):
    """A paper of the question."""
    check_question(question)
    kind = question[0]
    parts = question[1:]
    if kind == "word":
        return judge_word(*parts)
    if kind == "places":
        return judge_places(*parts)
    if kind == "balanced":
        return judge_balance(*parts)
    if kind == "reach":
        return judge_reach(*parts)
    if kind == "chain":
        return judge_chain(*parts)
    if kind == "reader":
        return judge_reader(*parts)
    if kind == "least":
        return judge_least(*parts)
    if kind == "narrow":
        return judge_narrow(*parts)
    if kind == "short":
        return judge_short(*parts)
    if kind == "never worse":
        return judge_never_worse(*parts)
    if kind == "by places":
        return judge_by_places(*parts)
    return judge_letter(*parts)


def paper_holds(question, thing):
    """Whether any two values are a question and a right paper of it."""
    return is_question(question) and is_paper(question, thing)


def is_paper(question, thing):
    """Whether any value is a right paper of a question."""
    kind = question[0]
    parts = question[1:]
    if kind == "word":
        return word_holds(*parts, thing)
    if kind == "places":
        return places_holds(*parts, thing)
    if kind == "balanced":
        return balance_holds(*parts, thing)
    if kind == "reach":
        return reach_holds(*parts, thing)
    if kind == "chain":
        return chain_holds(*parts, thing)
    if kind == "reader":
        return reader_holds(*parts, thing)
    if kind == "least":
        return least_holds(*parts, thing)
    if kind == "narrow":
        return narrow_holds(*parts, thing)
    if kind == "short":
        return short_holds(*parts, thing)
    if kind == "never worse":
        return never_worse_holds(*parts, thing)
    if kind == "by places":
        return by_places_holds(*parts, thing)
    return letter_holds(*parts, thing)


def is_told_yes(question):
    """Whether the paper of a question is of the kind that its part names first."""
    return judged(question)[0] in YES


def check_can_be_turned(question):
    check_question(question)
    if question[0] not in OF_A_TABLE and question[0] != "by places":
        raise BadQuestion(question)


def check_order_of(question, order):
    if not is_order(count_places(question[1]), order):
        raise BadOrder(order)


def turned_question(question, order):
    """The question about the turned tables, with its places renamed."""
    check_can_be_turned(question)
    check_order_of(question, order)
    kind = question[0]
    table = table_turned(question[1], order)
    if kind == "places":
        return (kind, table, order.index(question[2]), order.index(question[3]))
    if kind == "by places":
        return (kind, table, table_turned(question[2], order))
    return (kind, table) + question[2:]


def renamed(order, places):
    """Places by their new names, one after the other."""
    return tuple([order.index(place) for place in places])


def renamed_set(order, places):
    return tuple(sorted(renamed(order, places)))


def renamed_sets(order, sets):
    """Sets with their places renamed, in order again."""
    return in_order([renamed_set(order, places) for places in sets])


def turned_paper(question, paper, order):
    """The paper of the turned question."""
    check_can_be_turned(question)
    if not is_paper(question, paper):
        raise BadPaper(paper)
    check_order_of(question, order)
    kind = paper[0]
    if kind == "balanced":
        return paper
    if kind == "unbalanced":
        return (kind, renamed_set(order, paper[1]), renamed_set(order, paper[2]))
    return (kind, turned_proof(kind, paper[1], order))


def turned_proof(kind, proof, order):
    """What stands behind the kind in a paper of a question of any kind but "balanced"."""
    if kind == "order":
        return renamed(order, proof)
    if kind == "long":
        return drawn(proof, order)
    if kind == "broken":
        return tuple([renamed_sets(order, row) for row in proof])
    if kind in ("barred", "shut", "chain", "never worse"):
        return renamed_sets(order, proof)
    return renamed_set(order, proof)
