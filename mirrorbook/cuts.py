"""Cuts and spans of a table in an order: what has to be kept in mind from position to position."""

from mirrorbook.ladders import least_ranks
from mirrorbook.places import check_order
from mirrorbook.tableforms import hold_at
from mirrorbook.tables import check_table, count_places, with_place


def check_table_and_order(table, order):
    check_table(table)
    check_order(count_places(table), order)


def cut_at(table, number):
    """The cut behind the set with this number: its rank plus the rank of its rest minus the full rank."""
    return table[number] - hold_at(table, number)


def fronts(order):
    """The numbers of the sets of the first places of an order, from no place to all of them."""
    found = [0]
    for place in order:
        found.append(with_place(found[-1], place))
    return found


def cuts(table, order):
    """The cuts behind the first 0 to n places of an order."""
    check_table_and_order(table, order)
    return tuple([cut_at(table, front) for front in fronts(order)])


def cut_bounds(table):
    """For each i from 0 to n what the cut behind i places is at least, in every order."""
    ranks = least_ranks(table)
    return tuple([ahead + behind - table[-1] for ahead, behind in zip(ranks, ranks[::-1])])


def hold_between(table, order, a, b):
    """The hold of the set of the places at the positions a to b, which is () if a is greater."""
    return hold_at(table, sum([1 << place for place in order[a : b + 1]]))


def is_span(table, order, a, b):
    with_b = hold_between(table, order, a, b) - hold_between(table, order, a + 1, b)
    without_b = hold_between(table, order, a, b - 1) - hold_between(table, order, a + 1, b - 1)
    return with_b - without_b == 1


def spans(table, order):
    """The ascending tuple of the spans."""
    check_table_and_order(table, order)
    n = len(order)
    return tuple([(a, b) for a in range(n) for b in range(a, n) if is_span(table, order, a, b)])


def starts(table, order):
    """The ascending tuple of the first positions of the spans."""
    return tuple([a for a, _ in spans(table, order)])


def ends(table, order):
    """The ascending tuple of the last positions of the spans."""
    return tuple(sorted([b for _, b in spans(table, order)]))
