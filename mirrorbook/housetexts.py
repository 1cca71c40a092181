"""Texts of houses: the lines of names and promises, written and read."""

from mirrorbook.books import Book
from mirrorbook.errors import BadText
from mirrorbook.pairs import Pair, book_of_lines
from mirrorbook.promises import OF_A_BOOK, OF_A_PAIR, first_unkept, is_name, is_promise

HEAD = "house"
DIGITS = "0123456789"
MOST_DIGITS = 4


def state_lines(things, promises):
    """The lines of the text of a house."""
    lines = [HEAD]
    for name in sorted(list(things)):
        kind = "book" if isinstance(things[name], Book) else "pair"
        lines = lines + [f"{kind} {name}", str(things[name])]
    return lines + [promise_line(promise) for promise in promises]


def promise_line(promise):
    """The line of a promise."""
    kind = promise[0]
    if kind == "never worse":
        return " ".join(["better", promise[1], promise[2]])
    if kind == "narrow":
        return " ".join([kind, promise[1]] + [str(number) for number in (promise[3],) + promise[2]])
    return f"{kind} {promise[1]} {promise[2]}"


def is_digit(word):
    """Whether a string is a single digit."""
    return len(word) == 1 and word in DIGITS


def read_integer(word):
    """The integer of at most four digits that Python writes like this, None if there is none."""
    digits = word[1:] if word[:1] == "-" else word
    if not 1 <= len(digits) <= MOST_DIGITS or not all([is_digit(digit) for digit in digits]):
        return None
    return int(word) if str(int(word)) == word else None


def read_promise(words):
    """What could be a promise, by the form of the words of its line, None if they have no such form.

    Its numbers can be greater or less than those of a promise.
    """
    if len(words) < 3 or not is_name(words[1]):
        return None
    kind = words[0]
    if kind in ("within", "better"):
        return read_promise_of_books(words)
    number = read_integer(words[2])
    if number is None:
        return None
    if kind == "narrow" and all([is_digit(word) for word in words[3:]]):
        return (kind, words[1], tuple([int(word) for word in words[3:]]), number)
    if kind in OF_A_BOOK + OF_A_PAIR and len(words) == 3:
        return (kind, words[1], number)
    return None


def read_promise_of_books(words):
    if len(words) != 3 or not is_name(words[2]):
        return None
    return ("never worse" if words[0] == "better" else words[0], words[1], words[2])


def read_state(text):
    """The names with what they stand for, and the promises, of the text of a house."""
    if not isinstance(text, str):
        raise BadText(0)
    lines = text.split("\n")
    if lines[0] != HEAD:
        raise BadText(1)
    things = {}
    at = 1
    while at < len(lines) and is_name_line(lines[at]):
        end = end_of_thing(lines, at)
        kind, name = lines[at].split(" ")
        if not is_name(name) or any([name <= other for other in things]):
            raise BadText(at + 1)
        things[name] = read_thing(kind, lines[at + 1 : end], at + 1)
        at = end
    return (things, read_promises(things, lines, at))


def is_name_line(line):
    """Whether a line is to begin a name, perhaps with a name that cannot stand."""
    words = line.split(" ")
    return len(words) == 2 and words[0] in ("book", "pair")


def is_promise_line(line):
    """Whether a line is to be a promise, perhaps one that cannot stand."""
    words = line.split(" ")
    return len(words) > 2 and words[0] in OF_A_BOOK + OF_A_PAIR + ("narrow", "within", "better")


def end_of_thing(lines, start):
    """The place of the first line behind one that begins a name that does not belong to the book or pair."""
    behind = range(start + 1, len(lines))
    return min([at for at in behind if is_name_line(lines[at]) or is_promise_line(lines[at])], default=len(lines))


def read_thing(kind, lines, ahead):
    """The book or the pair of lines that stand behind so many other ones."""
    if kind == "book":
        return book_of_lines(lines, ahead)
    try:
        return Pair.read("\n".join(lines))
    except BadText as error:
        raise BadText(ahead + error.line)


def read_promises(things, lines, start):
    """The promises of the lines from one on, all of which are kept."""
    promises = ()
    for at in range(start, len(lines)):
        promise = read_promise(lines[at].split(" "))
        if not is_promise(things, promise) or promise in promises:
            raise BadText(at + 1)
        promises = promises + (promise,)
    unkept = first_unkept(things, promises)
    if unkept is not None:
        raise BadText(start + promises.index(unkept[0]) + 1)
    return promises
