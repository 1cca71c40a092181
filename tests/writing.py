"""Texts worked out the long way: which line is the first one that cannot stand, by the words of the document."""

import re

from tests import brute

LINES = ("", " ", "hides", "hides ", "Hides", "hides x 1", "house", "book 2 3", "book 3 2", "book x", "pair x")
LINES += ("0", "1", "0 1", "1 0", "0 0 1", "1 0 0", "1 1 1", "0 0 0", "1 2 0", "1 1 0 0", "book 2 9", "mends x 1", "x")


def is_reduced(rows):
    """Whether rows are reduced, asked of each lead."""
    if not all(any(row) for row in rows):
        return False
    leads = [brute.first(row) for row in rows]
    if leads != sorted(set(leads)) or any(row[lead] != 1 for row, lead in zip(rows, leads)):
        return False
    return all(row[lead] == 0 for at, row in enumerate(rows) for lead in leads[:at] + leads[at + 1 :])


def book_of(lines):
    """The (q, n, rows) of the lines of a book, or the number of the first one that cannot stand, from 0 on.

    A line that is missing at the end cannot stand, either.
    """
    head = re.fullmatch("book ([2-5]) ([1-8])", lines[0]) if lines else None
    if not head:
        return 0
    q, n = int(head[1]), int(head[2])
    rows = []
    for at, line in enumerate(lines[1:]):
        if not re.fullmatch("[0-9]( [0-9])*", line) or len(line.split()) != n:
            return at + 1
        row = tuple(map(int, line.split()))
        if max(row) >= q or not is_reduced([*rows, row]):
            return at + 1
        rows.append(row)
    return q, n, tuple(rows)


def pair_of(lines):
    """The two (q, n, rows) of the lines of a pair, or the number of the first one that cannot stand, from 0 on."""
    middle = lines.index("hides", 1) if "hides" in lines[1:] else len(lines)
    big = book_of(lines[:middle])
    if isinstance(big, int):
        return big
    if middle == len(lines):
        return middle
    small = book_of(lines[middle + 1 :])
    if isinstance(small, int):
        return middle + 1 + small
    return (big, small) if makes_pair(big, small) else len(lines)


def makes_pair(big, small):
    if big[:2] != small[:2]:
        return False
    return brute.span(*small) < brute.span(*big)


def line_changes(text, lines=LINES):
    """The text with a line left out, doubled, exchanged with the next one, put in, changed, or with blanks."""
    own = text.split("\n")
    for at in range(len(own) + 1):
        ahead, behind = own[:at], own[at:]
        for new in lines:
            yield "\n".join([*ahead, new, *behind])
        if behind:
            yield "\n".join(ahead + behind[1:])
            yield "\n".join([*ahead, behind[0], *behind])
            yield "\n".join([*ahead, *behind[1:2], behind[0], *behind[2:]])
            for new in (*lines, " " + behind[0], behind[0] + " ", behind[0].replace(" ", "  "), behind[0].upper()):
                yield "\n".join([*ahead, new, *behind[1:]])
            yield "\n".join([*ahead, behind[0] + " 0", *behind[1:]])
            yield "\n".join([*ahead, behind[0][:-1], *behind[1:]])
            yield "\n".join(ahead)
    yield "\n" + text
    yield text + "\n"
