"""Books: all words that satisfy some linear checks."""

from mirrorbook.errors import BadPlaces, BadRows, BadStack, BadText, BadWord, TooMany
from mirrorbook.fields import check_field
from mirrorbook.letters import row_product, row_sum, row_times
from mirrorbook.places import MOST_PLACES
from mirrorbook.rows import check_rows, lead_of, reduced_rows, sum_of_rows
from mirrorbook.values import is_integer_from, is_row, is_two

MOST_ROWS = 16


class Book:
    """A book over the field of q letters with n places, made of some of its words."""

    def __init__(self, q, n, rows):
        check_field(q)
        if not is_integer_from(n, 1, MOST_PLACES):
            raise BadPlaces(n)
        if not isinstance(rows, tuple) or len(rows) > MOST_ROWS:
            raise BadRows(-1)
        for number, row in enumerate(rows):
            if not is_row(q, n, row):
                raise BadRows(number)
        self.q = q
        self.n = n
        self.rows = reduced_rows(q, n, rows)
        self.dimension = len(self.rows)

    def __eq__(self, other):
        return isinstance(other, Book) and self.q == other.q and self.n == other.n and self.rows == other.rows

    def __str__(self):
        return "\n".join([f"book {self.q} {self.n}"] + [row_text(row) for row in self.rows])

    @classmethod
    def read(cls, text):
        """The book of a text; an error names the first line that cannot stand."""
        if not isinstance(text, str):
            raise BadText(0)
        lines = text.split("\n")
        head = read_head(lines[0])
        if head is None:
            raise BadText(1)
        q, n = head
        rows = []
        for at, line in enumerate(lines[1:]):
            row = read_row(q, n, line)
            if row is None or not is_next_row(rows, row):
                raise BadText(at + 2)
            rows.append(row)
        return cls(q, n, tuple(rows))


def row_text(row):
    """The line of a row in a text."""
    return " ".join([str(letter) for letter in row])


def read_head(line):
    """The numbers of letters and of places in the first line of a text, None if it is no such line."""
    for q in range(2, 6):
        for n in range(1, MOST_PLACES + 1):
            if line == f"book {q} {n}":
                return (q, n)
    return None


def read_row(q, n, line):
    """The n letters of a line of a text, None if it has none."""
    signs = [str(letter) for letter in range(q)]
    parts = line.split(" ")
    if len(parts) != n or not all([part in signs for part in parts]):
        return None
    return tuple([signs.index(part) for part in parts])


def is_next_row(rows, row):
    """Whether the row can stand behind these reduced rows as the next one."""
    letters = [letter for letter in row if letter != 0]
    if not letters or letters[0] != 1:
        return False
    # A row whose lead comes after all earlier ones has 0 at these.
    lead = lead_of(row)
    return all([lead_of(other) < lead and other[lead] == 0 for other in rows])


def leads(book):
    """The ascending tuple of the leads of the reduced rows."""
    return tuple([lead_of(row) for row in book.rows])


def made(book, amounts):
    """The word of the book with these amounts."""
    if not is_row(book.q, book.dimension, amounts):
        raise BadWord(amounts)
    return sum_of_rows(book.q, book.n, amounts, book.rows)


def count_words(book):
    """How many words the book has."""
    count = 1
    for _ in range(book.dimension):
        count = count * book.q
    return count


def words(book, *, most=4096):
    """The ascending tuple of all words of the book."""
    if count_words(book) > most:
        raise TooMany(most)
    # A word has its amounts at the leads, so the words ascend as their amounts do.
    found = [(0,) * book.n]
    for row in book.rows:
        parts = [row_times(book.q, letter, row) for letter in range(book.q)]
        found = [row_sum(book.q, word, part) for word in found for part in parts]
    return tuple(found)


def amounts_at_leads(book, word):
    """The only amounts that the word can have, if it is a word of the book."""
    return tuple([word[lead] for lead in leads(book)])


def is_word(book, thing):
    """Whether any value is a word of the book."""
    return is_row(book.q, book.n, thing) and made(book, amounts_at_leads(book, thing)) == thing


def check_word_of(book, word):
    if not is_row(book.q, book.n, word):
        raise BadWord(word)


def judge_word(book, word):
    """A paper for the word: its amounts, or a check that fails."""
    check_word_of(book, word)
    for check in check_rows(book.q, book.n, book.rows):
        if row_product(book.q, check, word) != 0:
            return ("fails", check)
    return ("made", amounts_at_leads(book, word))


def is_check(book, thing):
    """Whether any value is a word whose product with each word of the book is 0."""
    return is_row(book.q, book.n, thing) and all([row_product(book.q, thing, row) == 0 for row in book.rows])


def word_holds(book, word, thing):
    """Whether any value is a right paper for the word."""
    check_word_of(book, word)
    if not is_two(thing):
        return False
    kind, proof = thing
    if kind == "made":
        return is_row(book.q, book.dimension, proof) and made(book, proof) == word
    return kind == "fails" and is_check(book, proof) and row_product(book.q, proof, word) != 0


def stack_support(book, stack):
    """The set of the places at which a word of the stack has a letter that is not 0."""
    if not isinstance(stack, tuple):
        raise BadStack(-1)
    for number, word in enumerate(stack):
        if not is_word(book, word):
            raise BadStack(number)
    return tuple([place for place in range(book.n) if any([item[place] != 0 for item in stack])])
