"""A console: a house that is worked with by commands, each of them a line of text."""

from mirrorbook.books import Book
from mirrorbook.chances import return_poly
from mirrorbook.commands import read_command
from mirrorbook.compared import judge_never_worse
from mirrorbook.counts import weights_at
from mirrorbook.cuts import cuts
from mirrorbook.errors import InvalidCommand
from mirrorbook.ladders import ladder
from mirrorbook.orders import best_order
from mirrorbook.pairs import reaches, sures, told_by, told_chance
from mirrorbook.polynomials import value_at
from mirrorbook.promises import return_of
from mirrorbook.ratios import number_text
from mirrorbook.tableforms import mirror_table
from mirrorbook.tables import table_of

ASKS = ("names", "show", "ladder", "weights", "best", "tells", "chance", "better")
DONE = "done"


class Console:
    """Works with a house, and changes it."""

    def __init__(self, house):
        self.house = house

    def run(self, line):
        """Executes a command and returns its answer."""
        command = read_command(line)
        if command is None:
            raise InvalidCommand()
        kind = command[0]
        if kind in ASKS:
            return answer(self.house, kind, command[1:])
        if kind == "undo":
            self.house.undo()
        elif kind == "redo":
            self.house.redo()
        else:
            self.house.change(change_of(command))
        return DONE


def change_of(command):
    """The change of a command; all but one stand there already as the house takes them."""
    if command[0] != "book":
        return command
    kind, name, q, n, rows = command
    return (kind, name, Book(q, n, rows))


def answer(house, kind, items):
    """The answer to a command that asks, with what its other words say."""
    if kind == "names":
        return joined(house.names())
    if kind == "show":
        return str(house.kept(*items))
    if kind == "ladder":
        return " | ".join([joined(steps) for steps in two_ladders(house.kept(*items))])
    if kind == "weights":
        return joined(stacks_by_weight(house.book(items[0]), items[1]))
    if kind == "best":
        return best_text(table_of(house.book(*items)))
    if kind == "tells":
        return str(told_by(house.pair(items[0]), items[1]))
    if kind == "chance":
        return number_text(value_at(good_chance(house.kept(items[0])), items[1]))
    one, other = [house.book(name) for name in items]
    return judge_never_worse(return_of(one), return_of(other))[0]


def joined(items):
    """The items, joined by blanks, or a sign that there are none."""
    return " ".join([str(item) for item in items]) if len(items) > 0 else "-"


def two_ladders(thing):
    """The ladders of a book and of its mirror, or the two ladders of a pair."""
    if isinstance(thing, Book):
        table = table_of(thing)
        return (ladder(table), ladder(mirror_table(table)))
    return (reaches(thing), sures(thing))


def stacks_by_weight(book, many):
    """How many stacks of so many words of the book have each weight."""
    letters = 1
    for _ in range(many):
        letters = letters * book.q
    return weights_at(table_of(book), letters)


def best_text(table):
    """The best order and its cuts."""
    order = best_order(table)
    return ",".join([str(place) for place in order]) + " " + joined(cuts(table, order))


def good_chance(thing):
    """The return of a book, or the chance that the places that are left open a pair."""
    if isinstance(thing, Book):
        return return_poly(table_of(thing))
    return told_chance(thing, thing.length)
