"""Texts worked out the long way: which line is the first one that cannot stand, by the words of the document."""

import re

from tests import brute

LINES = ("", " ", "hides", "hides ", "Hides", "hides x 1", "house", "book 2 3", "book 3 2", "book x", "pair x")
LINES += ("0", "1", "0 1", "1 0", "0 0 1", "1 0 0", "1 1 1", "0 0 0", "1 2 0", "1 1 0 0", "book 2 9", "mends x 1", "x")


def is_reduced(rows):
    """Whether rows are reduced, asked of each lead."""
    if not all(any(row) for row in rows):
        return False
    leads = [brute.first(row) for row in rows]
    if leads != sorted(set(leads)) or any(row[lead] != 1 for row, lead in zip(rows, leads)):
        return False
    return all(row[lead] == 0 for at, row in enumerate(rows) for lead in leads[:at] + leads[at + 1 :])


def book_of(lines):
    """The (q, n, rows) of the lines of a book, or the number of the first one that cannot stand, from 0 on.

    A line that is missing at the end cannot stand, either.
    """
    head = re.fullmatch("book ([2-5]) ([1-8])", lines[0]) if lines else None
    if not head:
        return 0
    q, n = int(head[1]), int(head[2])
    rows = []
    for at, line in enumerate(lines[1:]):
        if not re.fullmatch("[0-9]( [0-9])*", line) or len(line.split()) != n:
            return at + 1
        row = tuple(map(int, line.split()))
        if max(row) >= q or not is_reduced([*rows, row]):
            return at + 1
        rows.append(row)
    return q, n, tuple(rows)


def pair_of(lines):
    """The two (q, n, rows) of the lines of a pair, or the number of the first one that cannot stand, from 0 on."""
    middle = lines.index("hides", 1) if "hides" in lines[1:] else len(lines)
    big = book_of(lines[:middle])
    if isinstance(big, int):
        return big
    if middle == len(lines):
        return middle
    small = book_of(lines[middle + 1 :])
    if isinstance(small, int):
        return middle + 1 + small
    return (big, small) if makes_pair(big, small) else len(lines)


def makes_pair(big, small):
    if big[:2] != small[:2]:
        return False
    return brute.span(*small) < brute.span(*big)


def line_changes(text, lines=LINES):
    """The text with a line left out, doubled, exchanged with the next one, put in, changed, or with blanks."""
    own = text.split("\n")
    for at in range(len(own) + 1):
        ahead, behind = own[:at], own[at:]
        for new in lines:
            yield "\n".join([*ahead, new, *behind])
        if behind:
            yield "\n".join(ahead + behind[1:])
            yield "\n".join([*ahead, behind[0], *behind])
            yield "\n".join([*ahead, *behind[1:2], behind[0], *behind[2:]])
            for new in (*lines, " " + behind[0], behind[0] + " ", behind[0].replace(" ", "  "), behind[0].upper()):
                yield "\n".join([*ahead, new, *behind[1:]])
            yield "\n".join([*ahead, behind[0] + " 0", *behind[1:]])
            yield "\n".join([*ahead, behind[0][:-1], *behind[1:]])
            yield "\n".join(ahead)
    yield "\n" + text
    yield text + "\n"


PROMISES = ("mends", "hides", "opens", "narrow", "memory", "within", "better")


def promise_of(words):
    """What a line says as a promise, by the words of [8.6], or None."""
    kind, *rest = words
    if kind in ("within", "better") and len(rest) == 2:
        return ("never worse" if kind == "better" else kind, *rest)
    if not all(re.fullmatch("[0-8]", word) for word in rest[1:]):
        return None
    numbers = tuple(map(int, rest[1:]))
    if kind == "narrow" and numbers:
        return (kind, rest[0], numbers[1:], numbers[0])
    return (kind, rest[0], *numbers) if len(numbers) == 1 else None


class HouseText:
    """The lines of a house, looked at one after the other."""

    def __init__(self, text):
        self.lines = text.split("\n")
        self.things, self.promises, self.at_promises = {}, [], []
        self.kind, self.name, self.own = None, None, []
        self.fault = self.first_fault()

    def first_fault(self):
        """The number of the first line that cannot stand, from 0 on, None if all can."""
        for at, line in enumerate(self.lines):
            if not self.can_stand(at, line):
                return at
        return None if self.close() else len(self.lines)

    def can_stand(self, at, line):
        words = line.split(" ")
        if at == 0:
            return line == "house"
        if len(words) == 2 and words[0] in ("book", "pair"):
            return self.begin(*words)
        if len(words) > 2 and words[0] in PROMISES:
            return self.close() and self.give(at, promise_of(words))
        if self.name is None or self.promises:
            return False
        self.own.append(line)
        found = (book_of if self.kind == "book" else pair_of)(self.own)
        return not isinstance(found, int) or found >= len(self.own)

    def begin(self, kind, name):
        if not self.close() or self.promises or not re.fullmatch("[a-z]{1,8}", name):
            return False
        if any(name <= other for other in self.things):
            return False
        self.kind, self.name, self.own = kind, name, []
        return True

    def close(self):
        """Whether the book or pair of the lines so far is whole."""
        if self.name is None:
            return True
        found = (book_of if self.kind == "book" else pair_of)(self.own)
        if isinstance(found, int):
            return False
        self.things[self.name] = found
        self.name = None
        return True

    def give(self, at, promise):
        """Whether a promise can be given."""
        if promise is None or promise in self.promises or not self.fits(promise):
            return False
        self.promises.append(promise)
        self.at_promises.append(at)
        return True

    def fits(self, promise):
        two = promise[0] in ("within", "never worse")
        names = promise[1:3] if two else promise[1:2]
        # A book is three values, a pair two.
        size = 2 if promise[0] in ("hides", "opens") else 3
        if not all(name in self.things and len(self.things[name]) == size for name in names):
            return False
        return promise[0] != "narrow" or (len(promise[2]) <= 8 and all(place < 8 for place in promise[2]))
