"""The texts of books: [1.7], `str(book)` and `Book.read`."""

import unittest
from itertools import product

from mirrorbook.books import Book
from mirrorbook.errors import BadText
from tests import brute
from tests.samples import Case, others, sample_books

BAD_HEADS = (
    "",
    " ",
    "book",
    "book ",
    "book 2",
    "book 2 ",
    "book 2 3 ",
    " book 2 3",
    "book  2 3",
    "book 2  3",
    "book 2 3 0",
    "Book 2 3",
    "books 2 3",
    "book 02 3",
    "book 2 03",
    "book +2 3",
    "book 2 +3",
    "book -2 3",
    "book 2 -3",
    "book 2.0 3",
    "book 2 3_0",
    "book 1 3",
    "book 6 3",
    "book 0 3",
    "book 22 3",
    "book 2 0",
    "book 2 9",
    "book 2 10",
    "book 2 x",
    "book x 3",
    "book 2,3",
    "book2 3",
    "book 23",
    "house",
    "1 0 1",
    "2 3",
)

BAD_ROWS = (
    "",
    " ",
    "1",
    "1 0",
    "1 0 1 ",
    " 1 0 1",
    "1  0 1",
    "1 0  1",
    "1 0 1 1",
    "101",
    "1,0,1",
    "1 0 x",
    "1 0 +1",
    "+1 0 1",
    "1 -0 1",
    "01 0 1",
    "1 00 1",
    "1 0 1_",
    "1 0 3",
    "1 0 9",
    "1 0 -1",
    "1 0 10",
    "True 0 1",
    "book 3 3",
    "hides",
    "2 0 1",
    "0 2 0",
    "0 0 2",
    "0 0 0",
)


class Written(Case):
    def test_texts_of_all_samples(self):
        for q, n, rows in sample_books(20, most_places=8):
            book = Book(q, n, rows)
            lines = [f"book {q} {n}"] + [" ".join(map(str, row)) for row in book.rows]
            self.assert_same(str(book), "\n".join(lines))

    def test_no_rows(self):
        self.assert_same(str(Book(5, 8, ((0,) * 8,))), "book 5 8")


class Read(Case):
    def test_what_was_written(self):
        for q, n, rows in sample_books(21, most_places=8):
            book = Book(q, n, rows)
            self.assert_call(book, Book.read, text=str(book))
            self.assert_same(Book.read(str(book)).rows, book.rows)

    def test_no_string(self):
        for text in others(lambda thing: type(thing) is str):
            self.assert_error(BadText(0), Book.read, text=text)

    def test_first_line(self):
        for head in BAD_HEADS:
            for rest in ("", "\n", "\n1 0 1", "\nbook 2 3", "\n\n\n"):
                self.assert_error(BadText(1), Book.read, text=head + rest)
        for q in range(10):
            for n in range(12):
                if 2 <= q <= 5 and 1 <= n <= 8:
                    self.assert_call(Book(q, n, ()), Book.read, text=f"book {q} {n}")
                else:
                    self.assert_error(BadText(1), Book.read, text=f"book {q} {n}")

    def test_lines_that_are_no_rows(self):
        for line in BAD_ROWS:
            for rest in ("", "\n", "\n0 1 1", "\n1 0 1\n2 2 2"):
                self.assert_error(BadText(2), Book.read, text="book 3 3\n" + line + rest)
        for line in BAD_ROWS:
            for rest in ("", "\n", "\n0 0 1"):
                self.assert_error(BadText(3), Book.read, text="book 3 3\n1 0 1\n" + line + rest)
                self.assert_error(BadText(4), Book.read, text="book 3 3\n1 0 1\n0 1 2\n" + line + rest)

    def test_letters_of_each_field(self):
        for q in (2, 3, 4, 5):
            for letter in range(10):
                text = f"book {q} 2\n1 {letter}"
                if letter < q:
                    self.assert_call(Book(q, 2, ((1, letter),)), Book.read, text=text)
                else:
                    self.assert_error(BadText(2), Book.read, text=text)

    def test_rows_that_are_not_the_next_one(self):
        for text, line in (
            ("book 2 3\n1 1 0\n0 1 1", 3),
            ("book 2 3\n0 1 1\n1 0 1", 3),
            ("book 2 3\n1 0 1\n1 0 1", 3),
            ("book 2 3\n1 0 1\n1 1 0", 3),
            ("book 3 3\n1 0 0\n0 2 0", 3),
            ("book 3 3\n1 0 0\n0 1 0\n0 0 0", 4),
            ("book 3 3\n0 1 0\n0 1 1", 3),
            ("book 3 4\n1 0 0 2\n0 1 0 0\n0 0 0 1", 4),
            ("book 3 4\n1 0 2 0\n0 0 1 0", 3),
            ("book 2 1\n1\n1", 3),
            ("book 2 2\n1 0\n0 1\n0 1", 4),
            ("book 2 3\n1 0 1\n0 1 1\n0 0 1\n", 4),
        ):
            self.assert_error(BadText(line), Book.read, text=text)
            self.assert_error(BadText(line), Book.read, text=text + "\n\n1 1 1")

    def test_every_text_of_two_rows(self):
        for q, n in ((2, 2), (3, 2), (2, 3)):
            every = brute.all_words(q, n)
            for rows in [(), *product(every), *product(every, every)]:
                lines = [f"book {q} {n}"] + [" ".join(map(str, row)) for row in rows]
                good = 0
                while good < len(rows) and self.is_reduced(q, n, rows[: good + 1]):
                    good += 1
                if good == len(rows):
                    self.assertEqual(Book.read("\n".join(lines)).rows, rows)
                else:
                    self.assert_error(BadText(good + 2), Book.read, text="\n".join(lines))

    def is_reduced(self, q, n, rows):
        listed = brute.span(q, n, rows)
        return len(listed) == q ** len(rows) and brute.reduced(q, n, listed) == rows

    def test_line_feed_at_the_end(self):
        self.assert_error(BadText(2), Book.read, text="book 2 3\n")
        self.assert_error(BadText(4), Book.read, text="book 2 3\n1 0 1\n0 1 1\n")
        self.assert_error(BadText(2), Book.read, text="book 2 3\n\n1 0 1")

    def test_long_texts(self):
        self.assert_error(BadText(3), Book.read, text="book 2 3\n" + "0 0 1\n" * 300)
        self.assert_error(BadText(1), Book.read, text="\n" * 2000)
        self.assert_error(BadText(2), Book.read, text="book 2 3\n" + "1 " * 900)

    def test_examples(self):
        e = Book(2, 3, ((1, 1, 0), (0, 1, 1)))
        self.assert_same(str(e), "book 2 3\n1 0 1\n0 1 1")
        self.assert_error(BadText(3), Book.read, text="book 2 3\n1 1 0\n0 1 1")
        self.assert_error(BadText(2), Book.read, text="book 2 3\n")
        self.assert_error(BadText(1), Book.read, text="")


if __name__ == "__main__":
    unittest.main()
